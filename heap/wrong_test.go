package heap

import (
	"testing"

	"evenhand/api"
)

// K1, R2: ids of arrays that are not there: nothing is told, and nothing changed.
func TestK1WrongIDs(t *testing.T) {
	for _, sizes := range [][]int64{{}, {1}, {4096}, {2, 1, 3}, {1, 1, 1, 1, 1}} {
		p := of(t, 5000, sizes...)
		p.fill()
		for _, id := range p.ids() {
			if n := p.heap.Len(id); n != 0 {
				t.Errorf("sizes %v: Len(%d) is %d", sizes, id, n)
			}
			for _, i := range append(far(), 0, 1, 2, 3) {
				if n, ok := p.heap.Get(id, i); n != 0 || ok {
					t.Errorf("sizes %v: Get(%d, %d) is %d, %v", sizes, id, i, n, ok)
				}
				if p.heap.Set(id, i, 99) {
					t.Errorf("sizes %v: Set(%d, %d)", sizes, id, i)
				}
			}
		}
		p.all()
		p.make(2)
		p.all()
	}
}

// K1, R2: places that are not there, as small and as large as may be.
func TestK1WrongPlaces(t *testing.T) {
	p := of(t, 5000, 2, 1, 4096, 3)
	p.fill()
	for id, size := range p.want.sizes {
		for _, i := range append(far(), -size-1, -size, -1, size, size+1, size+2, 4096, 4097) {
			if i >= 0 && i < size {
				continue
			}
			if n, ok := p.heap.Get(id, i); n != 0 || ok {
				t.Errorf("Get(%d, %d) is %d, %v", id, i, n, ok)
			}
			if p.heap.Set(id, i, 99) {
				t.Errorf("Set(%d, %d)", id, i)
			}
		}
	}
	p.all()
}

// K1: an array that was refused is not there; its id is the next one's that is
// made.
func TestK1RefusedIsNotThere(t *testing.T) {
	for _, n := range []int64{0, -1, 4, 4096, 4097, least, most} {
		p := of(t, 5, 2)
		p.fill()
		p.make(n)
		p.make(n)
		for i := int64(-1); i < 5; i++ {
			if v, ok := p.heap.Get(1, i); v != 0 || ok {
				t.Errorf("behind Make(%d): Get(1, %d) is %d, %v", n, i, v, ok)
			}
			if p.heap.Set(1, i, 8) {
				t.Errorf("behind Make(%d): Set(1, %d)", n, i)
			}
		}
		if p.heap.Len(1) != 0 {
			t.Errorf("behind Make(%d): Len(1) is %d", n, p.heap.Len(1))
		}
		if id, err := p.heap.Make(3); id != 1 || err != api.OK || p.heap.Used() != 5 {
			t.Errorf("behind Make(%d): %d, %v, %d", n, id, err, p.heap.Used())
		}
		for i := range int64(3) {
			if v, ok := p.heap.Get(1, i); v != 0 || !ok {
				t.Errorf("behind Make(%d): Get(1, %d) is %d, %v", n, i, v, ok)
			}
		}
	}
}

// K1, R3: heaps have nothing to do with each other, whatever their quotas.
func TestK1ManyHeaps(t *testing.T) {
	var l []*pair
	for _, quota := range []int64{0, 5, 5, 9, 1 << 20, 1 << 20} {
		l = append(l, of(t, quota))
	}
	for round := range int64(12) {
		for at, p := range l {
			p.make(1 + (round+int64(at))%3)
			for id := range p.want.sizes {
				p.set(id, round%3, round*100+int64(at*10+id))
			}
			for _, other := range l {
				other.all()
			}
		}
	}
}

// K1, R3: what is used up of one is not of another one that is made later.
func TestK1NotKept(t *testing.T) {
	for round := range int64(20) {
		p := of(t, 3)
		p.all()
		if p.make(2) != api.OK || p.make(2) != api.ErrQuota || p.make(1) != api.OK || p.make(1) != api.ErrQuota {
			t.Fatal(round)
		}
		p.all()
		p.set(0, 1, round+1)
		p.set(1, 0, -round-1)
		p.all()
	}
}
