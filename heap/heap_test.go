package heap

import (
	"slices"
	"testing"

	"evenhand/api"
)

// K1: the chapter's example.
func TestK1Example(t *testing.T) {
	h := New(5)
	for _, x := range []struct {
		n    int64
		id   int
		err  api.Errno
		used int64
	}{{3, 0, api.OK, 3}, {3, 0, api.ErrQuota, 3}, {2, 1, api.OK, 5}} {
		if id, err := h.Make(x.n); id != x.id || err != x.err || h.Used() != x.used {
			t.Errorf("Make(%d) is %d, %v, used %d; want %+v", x.n, id, err, h.Used(), x)
		}
	}
	if h.Len(0) != 3 || h.Len(1) != 2 || h.Len(2) != 0 {
		t.Error(h.Len(0), h.Len(1), h.Len(2))
	}
}

// K1: at first there are no arrays, and nothing is used.
func TestK1AtFirst(t *testing.T) {
	for _, quota := range []int64{least, -1, 0, 1, 5, 4096, 1 << 20, most} {
		h := New(quota)
		if h.Used() != 0 || h.Len(0) != 0 || h.Len(1) != 0 || h.Len(-1) != 0 {
			t.Error(quota, h.Used(), h.Len(0), h.Len(1), h.Len(-1))
		}
		if n, ok := h.Get(0, 0); n != 0 || ok {
			t.Error(quota, n, ok)
		}
		if h.Set(0, 0, 7) {
			t.Error(quota)
		}
		if h.Used() != 0 {
			t.Error(quota, h.Used())
		}
	}
}

// K1: arrays one behind the other, each with its id, its Len and noughts.
func TestK1OneBehindTheOther(t *testing.T) {
	sizes := []int64{1, 2, 3, 1, 4096, 7, 4095, 1, 100, 4096, 5}
	h := New(1 << 20)
	used := int64(0)
	for id, n := range sizes {
		if got, err := h.Make(n); got != id || err != api.OK {
			t.Errorf("Make(%d) is %d, %v, want %d", n, got, err, id)
		}
		if used += n; h.Used() != used {
			t.Errorf("used %d, want %d", h.Used(), used)
		}
		for i := range n {
			if v, ok := h.Get(id, i); v != 0 || !ok {
				t.Errorf("%d, %d: %d, %v", id, i, v, ok)
			}
		}
		for was := range id + 3 {
			want := int64(0)
			if was <= id {
				want = sizes[was]
			}
			if got := h.Len(was); got != want {
				t.Errorf("behind %d: Len(%d) is %d, want %d", id, was, got, want)
			}
		}
	}
}

// K1: a new array has noughts, whatever stands in those that were made ahead.
func TestK1Noughts(t *testing.T) {
	p := of(t, 1<<20)
	for id := range 40 {
		p.make(int64(1 + id*id%97))
		p.all()
		for i := range p.want.size(id) {
			p.set(id, i, -1)
		}
	}
	p.all()
}

// K1: what is put into a cell is there, and nowhere else; what was put last is
// there.
func TestK1SetAndGet(t *testing.T) {
	for _, sizes := range [][]int64{{1}, {2}, {5}, {1, 1}, {3, 2}, {2, 3, 1}, {1, 4, 1, 2}, {4, 4, 4}} {
		p := of(t, 20, sizes...)
		for id, size := range sizes {
			for i := range size {
				for _, v := range []int64{7, -7, 0, 9} {
					p.set(id, i, v)
					p.all()
				}
			}
		}
		p.fill()
		p.all()
		for id, size := range slices.Backward(sizes) {
			for i := range size {
				p.set(id, size-1-i, 0)
				p.all()
			}
		}
	}
}

// K1: a cell has whatever number was put there.
func TestK1Numbers(t *testing.T) {
	l := append(far(), 0, 1, 2, 255, 256)
	p := of(t, 1<<20, int64(len(l)), 1)
	for i, v := range l {
		p.set(0, int64(i), v)
		p.set(1, 0, v)
		p.get(1, 0)
	}
	p.all()
	for _, v := range l {
		p.set(1, 0, v)
		if n, ok := p.heap.Get(1, 0); n != v || !ok {
			t.Errorf("%d, %v, want %d", n, ok, v)
		}
	}
}

// K1: what stands in arrays stays, while others are made behind them, and may be
// changed then.
func TestK1MadeLater(t *testing.T) {
	p := of(t, 1<<20, 3, 1)
	p.fill()
	for id := 2; id < 200; id++ {
		p.make(int64(id))
		p.set(id, int64(id-1), int64(id))
		p.set(id-1, 0, int64(-id))
		p.set(id%2, 0, int64(id))
		p.get(id%2, 0)
	}
	p.all()
}

// K1: asking changes nothing, and is answered the same again.
func TestK1AskedAgain(t *testing.T) {
	p := of(t, 30, 4, 1, 6)
	p.fill()
	for range 3 {
		p.all()
	}
	p.make(2)
	p.all()
}

// The room of an array ends where its cells do: what is put behind them is not in
// the next array.
func TestK1RoomIsCut(t *testing.T) {
	p := of(t, 100, 3, 1, 4, 2)
	p.fill()
	for id, size := range p.want.sizes {
		a := p.heap.array(id)
		if int64(len(a)) != size || int64(cap(a)) != size {
			t.Errorf("%d: %d cells, with room for %d, want %d", id, len(a), cap(a), size)
		}
		_ = append(a, -1)
		p.all()
	}
}
