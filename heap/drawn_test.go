package heap

import (
	"math/rand"
	"testing"
)

// K1: all rows of up to five calls out of these, and all that is told behind each.
func TestK1AllRows(t *testing.T) {
	calls := []func(*pair){
		func(p *pair) { p.make(0) }, func(p *pair) { p.make(1) }, func(p *pair) { p.make(2) }, func(p *pair) { p.make(4097) },
		func(p *pair) { p.set(0, 0, 5) }, func(p *pair) { p.set(0, 1, 6) }, func(p *pair) { p.set(1, 0, 7) }, func(p *pair) { p.set(1, -1, 8) }, func(p *pair) { p.set(2, 0, 9) },
	}
	var rows func(quota int64, row []int)
	rows = func(quota int64, row []int) {
		p := of(t, quota)
		for _, at := range row {
			calls[at](p)
		}
		p.all()
		if len(row) == 5 {
			return
		}
		for at := range calls {
			rows(quota, append(row[:len(row):len(row)], at))
		}
	}
	for quota := range int64(4) {
		rows(quota, nil)
	}
}

// near draws a number: most from -2 to a little above n, some as far as may be.
func near(r *rand.Rand, n int64) int64 {
	if r.Intn(20) == 0 {
		l := far()
		return l[r.Intn(len(l))]
	}
	return r.Int63n(n+5) - 2
}

// K1: rows of drawn calls, with a fixed source, of several heaps at once.
func TestK1Drawn(t *testing.T) {
	r := rand.New(rand.NewSource(11))
	made, refused := 0, 0
	for range 300 {
		var l []*pair
		for _, quota := range []int64{r.Int63n(50), r.Int63n(5000), r.Int63n(1<<20 + 1), 1 << 20} {
			l = append(l, of(t, quota))
		}
		for range 300 {
			p := l[r.Intn(len(l))]
			id := int(near(r, int64(len(p.want.sizes))))
			switch r.Intn(6) {
			case 0:
				if p.make(near(r, []int64{3, 20, 4096}[r.Intn(3)])) == 0 {
					made++
				} else {
					refused++
				}
			case 1, 2:
				p.set(id, near(r, p.want.size(id)), r.Int63()-r.Int63())
			case 3, 4:
				p.get(id, near(r, p.want.size(id)))
			case 5:
				p.len(id)
			}
		}
		for _, p := range l[:2] {
			p.all()
		}
	}
	if made < 3000 || refused < 3000 {
		t.Errorf("%d made and %d refused alone", made, refused)
	}
}

// K1: great heaps, that are used up, with something in each cell.
func TestK1Full(t *testing.T) {
	r := rand.New(rand.NewSource(1100))
	p := of(t, 1<<20)
	for p.want.used < p.want.quota {
		p.make(1 + r.Int63n(4096))
		if left := p.want.quota - p.want.used; left < 4096 && left > 0 {
			p.make(left)
		}
	}
	p.all()
	p.fill()
	p.make(1)
	p.all()
}
