package meter

import (
	"math/rand"
	"slices"
	"testing"

	"evenhand/api"
)

// L1: all rows of up to six charges out of these, and what is told behind each.
func TestL1AllRows(t *testing.T) {
	charges := []int64{-1, 0, 1, 2, 5, limit, limit + 1}
	var rows func(fuel int64, row []int64)
	rows = func(fuel int64, row []int64) {
		of(t, fuel, had(fuel), row...)
		if len(row) == 6 {
			return
		}
		for _, n := range charges {
			rows(fuel, append(row[:len(row):len(row)], n))
		}
	}
	for _, fuel := range []int64{-1, 0, 1, 2, 3, 5, limit} {
		rows(fuel, nil)
	}
}

// drawn is a charge: most are at most what is left, many just about that, and some
// as far as may be.
func drawn(r *rand.Rand, left int64) int64 {
	left = max(left, 0)
	switch r.Intn(12) {
	case 0:
		return left + r.Int63n(5) - 2
	case 1:
		l := slices.Concat(below(), between(), above())
		return l[r.Intn(len(l))]
	case 2:
		return r.Int63() - r.Int63()
	case 3, 4:
		return r.Int63n(left + 1)
	}
	return r.Int63n(left/8 + 1)
}

// L1: rows of drawn charges, with a fixed source, of several meters at once.
func TestL1Drawn(t *testing.T) {
	r := rand.New(rand.NewSource(12))
	told := map[api.Errno]int{}
	for range 2000 {
		var l []*pair
		for _, fuel := range []int64{r.Int63n(50), r.Int63n(100000), r.Int63n(limit + 1), limit, r.Int63() - r.Int63()} {
			l = append(l, of(t, fuel, had(fuel)))
		}
		for range 100 {
			p := l[r.Intn(len(l))]
			told[p.charge(drawn(r, p.want.left))]++
		}
		for _, p := range l {
			p.all()
		}
	}
	for _, err := range []api.Errno{api.OK, api.ErrArg, api.ErrFuel} {
		if told[err] < 20000 {
			t.Errorf("%v: %d alone", err, told[err])
		}
	}
}
