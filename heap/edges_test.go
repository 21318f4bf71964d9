package heap

import (
	"slices"
	"testing"

	"evenhand/api"
)

// quotas are what may be asked for, and what is had then.
func quotas() map[int64]int64 {
	m := map[int64]int64{}
	for _, q := range []int64{least, least + 1, -1 << 62, -1<<32 + 5, -1 << 20, -4097, -5, -1} {
		m[q] = 0
	}
	for _, q := range []int64{0, 1, 2, 3, 5, 4095, 4096, 4097, 8192, 65537, 1<<20 - 4097, 1<<20 - 4096, 1<<20 - 1, 1 << 20} {
		m[q] = q
	}
	for _, q := range []int64{1<<20 + 1, 1<<20 + 4096, 1 << 21, 1 << 31, 1 << 32, 1<<32 + 5, 1 << 40, 1 << 62, most - 1, most} {
		m[q] = 1 << 20
	}
	return m
}

// K1: as many cells as the quota may be used, and not one more.
func TestK1Quotas(t *testing.T) {
	for asked, quota := range quotas() {
		p := &pair{T: t, heap: New(asked), want: second{quota: quota}}
		for p.want.used < quota {
			left := quota - p.want.used
			if left < 4096 && p.make(left+1) != api.ErrQuota {
				t.Fatal("the second way is wrong")
			}
			if p.make(min(left, 4096)) != api.OK {
				t.Fatal("the second way is wrong")
			}
		}
		for _, n := range []int64{1, 2, 4095, 4096} {
			if id, err := p.heap.Make(n); id != 0 || err != api.ErrQuota {
				t.Errorf("New(%d): Make(%d) is %d, %v", asked, n, id, err)
			}
		}
		if used := p.heap.Used(); used != quota {
			t.Errorf("New(%d): %d are used, want %d", asked, used, quota)
		}
	}
}

// K1: arrays of one cell, as many as the quota has cells.
func TestK1OneCellEach(t *testing.T) {
	for _, quota := range []int64{1, 2, 100, 4097, 1 << 20} {
		h := New(quota)
		for id := range int(quota) {
			if got, err := h.Make(1); got != id || err != api.OK || !h.Set(id, 0, int64(id)+1) {
				t.Fatal(quota, id, got, err)
			}
		}
		if id, err := h.Make(1); id != 0 || err != api.ErrQuota || h.Used() != quota || h.Len(int(quota)) != 0 {
			t.Error(quota, id, err, h.Used(), h.Len(int(quota)))
		}
		for id := range int(quota) {
			if n, ok := h.Get(id, 0); n != int64(id)+1 || !ok || h.Len(id) != 1 {
				t.Fatal(quota, id, n, ok, h.Len(id))
			}
		}
	}
}

// K1: how many cells an array may have; ErrArg comes first, also where there are
// no cells left.
func TestK1Sizes(t *testing.T) {
	for _, quota := range []int64{least, -1, 0, 1, 3, 4095, 4096, 4097, 1 << 20, most} {
		room := min(max(quota, 0), 1<<20)
		for _, n := range append(far(), 0, 1, 2, 3, 4, 5, 255, 256, 257, 4094, 4095, 4096, 4097, 4098, 8192) {
			want := api.OK
			if n > room {
				want = api.ErrQuota
			}
			if n < 1 || n > 4096 {
				want = api.ErrArg
			}
			h := New(quota)
			id, err := h.Make(n)
			if id != 0 || err != want {
				t.Errorf("New(%d): Make(%d) is %d, %v, want %v", quota, n, id, err, want)
			}
			size := int64(0)
			if want == api.OK {
				size = n
			}
			if h.Used() != size || h.Len(0) != size {
				t.Errorf("New(%d): behind Make(%d) %d are used, Len is %d, want %d", quota, n, h.Used(), h.Len(0), size)
			}
		}
	}
}

// K1: what is refused changes nothing, and what fits is made behind it.
func TestK1Refused(t *testing.T) {
	wrong := append(far(), 0, 4097, 4098)
	for _, sizes := range [][]int64{{}, {1}, {3}, {4}, {5}, {1, 4}, {2, 2, 1}, {1, 1, 1, 1}} {
		p := of(t, 5, sizes...)
		p.fill()
		left := 5 - p.want.used
		for _, n := range slices.Concat(wrong, []int64{left + 1, left + 2, 4095, 4096}) {
			if p.make(n) == api.OK {
				t.Fatal(sizes, n)
			}
			p.all()
		}
		for left > 0 {
			n := (left + 1) / 2
			p.make(left + 1)
			if p.make(n) != api.OK {
				t.Fatal(sizes, n)
			}
			p.make(0)
			p.all()
			left -= n
		}
		p.make(1)
		p.make(most)
		p.all()
	}
}

// K1: of one quota all ways to use it up.
func TestK1AllWays(t *testing.T) {
	var parts func(quota int64, sizes []int64)
	parts = func(quota int64, sizes []int64) {
		p := of(t, quota, sizes...)
		left := quota - p.want.used
		p.all()
		p.fill()
		p.make(left + 1)
		p.all()
		for n := range left {
			parts(quota, append(slices.Clone(sizes), n+1))
		}
	}
	for quota := range int64(8) {
		parts(quota, nil)
	}
}

// K1: the first and the last cell of an array, and those beside them, which are
// cells of other arrays, that stay.
func TestK1CellsBeside(t *testing.T) {
	for _, n := range []int64{1, 2, 3, 4095, 4096} {
		p := of(t, 3*4096, 2, n, 3)
		p.fill()
		for _, i := range []int64{-n - 1, -n, -3, -2, -1, n, n + 1, n + 2, n + 3, n + 4, 2 * n, 4097} {
			if i >= 0 && i < n {
				continue
			}
			if p.heap.Set(1, i, -9) {
				t.Errorf("of %d: Set(1, %d)", n, i)
			}
			if v, ok := p.heap.Get(1, i); v != 0 || ok {
				t.Errorf("of %d: Get(1, %d) is %d, %v", n, i, v, ok)
			}
		}
		p.all()
		for _, i := range []int64{0, n - 1} {
			p.set(1, i, -5)
			if v, ok := p.heap.Get(1, i); v != -5 || !ok {
				t.Errorf("of %d: Get(1, %d) is %d, %v", n, i, v, ok)
			}
			p.all()
		}
	}
}

// K1: the place behind the last array's last cell is there as soon as an array is
// made behind it, and is then that one's alone.
func TestK1BehindTheLast(t *testing.T) {
	p := of(t, 100, 4)
	for id := range 10 {
		for i := range int64(6) {
			p.set(id, 4+i, 9)
			p.set(id+1, i, 9)
			p.get(id, 4+i)
			p.get(id+1, i)
		}
		p.make(4)
		p.all()
		p.fill()
	}
}
