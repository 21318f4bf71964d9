package meter

import (
	"slices"
	"testing"

	"evenhand/api"
)

// fuels are all that New is tried with.
func fuels() []int64 { return slices.Concat(below(), between(), above()) }

// L1: how much fuel there is: just so much may be charged, and not 1 more.
func TestL1Fuels(t *testing.T) {
	for _, fuel := range fuels() {
		room := had(fuel)
		steps(t, New(fuel), step{room, api.OK, room, false}, step{0, api.OK, room, false}, step{1, api.ErrFuel, room + 1, true}, step{0, api.ErrFuel, room + 1, true})
		if room < limit {
			steps(t, New(fuel), step{room + 1, api.ErrFuel, room + 1, true}, step{0, api.ErrFuel, room + 1, true})
		}
	}
}

// L1: below 0 there is no fuel, be it how far below it may; it is not over for all
// that.
func TestL1NoFuel(t *testing.T) {
	for _, fuel := range append(below(), 0) {
		m := New(fuel)
		if m.Now() != 0 || m.Over() {
			t.Errorf("New(%d): %d, %v", fuel, m.Now(), m.Over())
		}
		steps(t, m, step{0, api.OK, 0, false}, step{0, api.OK, 0, false}, step{1, api.ErrFuel, 1, true}, step{0, api.ErrFuel, 1, true})
		steps(t, New(fuel), step{limit, api.ErrFuel, limit, true}, step{limit, api.ErrFuel, limit, true})
	}
}

// L1: above 2^40 it is 2^40.
func TestL1MostFuel(t *testing.T) {
	for _, fuel := range append(above(), limit) {
		steps(t, New(fuel), step{limit - 1, api.OK, limit - 1, false}, step{1, api.OK, limit, false}, step{1, api.ErrFuel, limit + 1, true})
		steps(t, New(fuel), step{limit - 1, api.OK, limit - 1, false}, step{2, api.ErrFuel, limit + 1, true})
		steps(t, New(fuel), step{1, api.OK, 1, false}, step{limit, api.ErrFuel, limit + 1, true})
	}
	steps(t, New(limit-1), step{limit - 1, api.OK, limit - 1, false}, step{1, api.ErrFuel, limit, true})
	steps(t, New(limit-1), step{limit, api.ErrFuel, limit, true})
}

// L1: a charge of 0 is one: it is OK while it is not over, and ErrFuel when it is.
func TestL1Nothing(t *testing.T) {
	for _, fuel := range fuels() {
		p := of(t, fuel, had(fuel))
		for range 3 {
			if p.charge(0) != api.OK {
				t.Fatal("the second way is wrong")
			}
		}
		p = of(t, fuel, had(fuel), p.want.left, had(fuel)/2+1)
		for range 3 {
			if p.charge(0) != api.ErrFuel {
				t.Fatal("the second way is wrong")
			}
		}
	}
}

// L1: the clock at its highest, which is twice 2^40: it does not go above that.
func TestL1Highest(t *testing.T) {
	for _, fuel := range append(above(), limit) {
		m := New(fuel)
		steps(t, m, step{limit, api.OK, limit, false}, step{limit, api.ErrFuel, 2 * limit, true})
		for range 5 {
			steps(t, m,
				step{limit, api.ErrFuel, 2 * limit, true}, step{limit + 1, api.ErrArg, 2 * limit, true}, step{1, api.ErrFuel, 2 * limit, true},
				step{0, api.ErrFuel, 2 * limit, true}, step{-1, api.ErrArg, 2 * limit, true}, step{most, api.ErrArg, 2 * limit, true}, step{least, api.ErrArg, 2 * limit, true},
			)
		}
	}
}

// L1: what may be charged, of all fuels, behind all charges: whatever is left, all
// but what is wrong is on the clock.
func TestL1LastCharge(t *testing.T) {
	for _, fuel := range fuels() {
		for _, first := range between() {
			for _, then := range slices.Concat(below(), between(), above()) {
				p := of(t, fuel, had(fuel), first, then)
				if now := p.meter.Now(); now > 2*limit {
					t.Fatalf("New(%d): behind %d, %d it is %d", fuel, first, then, now)
				}
			}
		}
	}
}
