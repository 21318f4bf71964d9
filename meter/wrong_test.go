package meter

import (
	"testing"

	"evenhand/api"
)

// wrong are charges that may not be.
func wrong() []int64 { return append(below(), above()...) }

// L1, R2: wrong charges change nothing, however many there are.
func TestL1Wrong(t *testing.T) {
	for _, n := range wrong() {
		m := New(5)
		steps(t, m, step{n, api.ErrArg, 0, false}, step{n, api.ErrArg, 0, false}, step{2, api.OK, 2, false}, step{n, api.ErrArg, 2, false})
		steps(t, m, step{3, api.OK, 5, false}, step{n, api.ErrArg, 5, false}, step{0, api.OK, 5, false}, step{1, api.ErrFuel, 6, true})
	}
	m := New(5)
	for _, n := range wrong() {
		steps(t, m, step{n, api.ErrArg, 0, false})
	}
	steps(t, m, step{5, api.OK, 5, false})
}

// L1: 2^40 may be charged, and 2^40 and 1 may not; 0 may be, and -1 may not.
func TestL1WrongByOne(t *testing.T) {
	for _, fuel := range []int64{0, 1, 5, limit - 1} {
		steps(t, New(fuel), step{limit + 1, api.ErrArg, 0, false}, step{-1, api.ErrArg, 0, false}, step{0, api.OK, 0, false}, step{limit, api.ErrFuel, limit, true})
	}
	steps(t, New(limit), step{limit + 1, api.ErrArg, 0, false}, step{-1, api.ErrArg, 0, false}, step{0, api.OK, 0, false}, step{limit, api.OK, limit, false})
}

// L1: ErrArg comes first: what is wrong is told as wrong, also when it is over, and
// also when it would be over by that charge.
func TestL1WrongFirst(t *testing.T) {
	for _, n := range wrong() {
		m := New(5)
		steps(t, m, step{6, api.ErrFuel, 6, true}, step{n, api.ErrArg, 6, true}, step{0, api.ErrFuel, 6, true}, step{n, api.ErrArg, 6, true}, step{n, api.ErrArg, 6, true})
		steps(t, New(-n), step{n, api.ErrArg, 0, false})
		steps(t, New(0), step{n, api.ErrArg, 0, false}, step{n, api.ErrArg, 0, false}, step{limit, api.ErrFuel, limit, true}, step{n, api.ErrArg, limit, true})
	}
}

// L1: when it is over, it stays so, and the clock stands.
func TestL1Over(t *testing.T) {
	for _, past := range []int64{1, 2, 1000, limit - 7} {
		m := New(7)
		steps(t, m, step{7 + past, api.ErrFuel, 7 + past, true})
		for range 3 {
			for _, n := range between() {
				steps(t, m, step{n, api.ErrFuel, 7 + past, true})
			}
			for _, n := range wrong() {
				steps(t, m, step{n, api.ErrArg, 7 + past, true})
			}
		}
	}
}

// L1, R3: meters have nothing to do with each other, whatever their fuels.
func TestL1ManyMeters(t *testing.T) {
	var l []*pair
	for _, fuel := range []int64{least, -1, 0, 5, 5, 9, limit, limit, most} {
		l = append(l, of(t, fuel, had(fuel)))
	}
	for round := range int64(12) {
		for at, p := range l {
			p.charge((round+int64(at))%3 - round%2)
			if at == int(round) {
				p.charge(limit)
			}
			for _, other := range l {
				other.all()
			}
		}
	}
}

// L1, R3: what is used of one is not of another one that is made later.
func TestL1NotKept(t *testing.T) {
	for range 20 {
		steps(t, New(2), step{2, api.OK, 2, false}, step{2, api.ErrFuel, 4, true}, step{0, api.ErrFuel, 4, true})
		steps(t, New(3), step{2, api.OK, 2, false}, step{1, api.OK, 3, false}, step{limit, api.ErrFuel, limit + 3, true})
	}
}
