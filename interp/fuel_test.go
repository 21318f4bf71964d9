package interp

import (
	"fmt"
	"testing"

	"evenhand/api"
	"evenhand/code"
)

// step is one charge, and how much is told behind what it is for.
type step struct {
	cost                   int64
	prints, keeps, clocked int
}

// N2: each charge is ahead of what it is for: with each fuel, all ends at the first one
// that is too much, and all ahead of it is done. The function that is called has a body
// of its own, and is charged for by the tier.
func TestN2EachFuel(t *testing.T) {
	main := "input 0 0, load 0, print, push 2, call 1, store 1, array 0 4, push 1, clock, set 0, push 1, get 0, keep, push 3, push 4, mul, zero 18, jump 18, push 9, push 2, div, return"
	body := written("load 0, keep, clock, print, jump 5, push 6, return")
	l := []step{
		{4, 0, 0, 0}, {1, 0, 0, 0}, {5, 1, 0, 0}, {1, 1, 0, 0}, {10, 1, 0, 0}, {25, 1, 0, 0}, // called, and the tier's charge
		{1, 1, 0, 0}, {3, 1, 1, 0}, {1, 1, 1, 1}, {3, 2, 1, 1}, {1, 2, 1, 1}, {1, 2, 1, 1}, {1, 2, 1, 1}, // the body, that is fast
		{1, 2, 1, 1}, {20, 2, 1, 1}, {1, 2, 1, 1}, {2, 2, 1, 2}, {3, 2, 1, 2}, {1, 2, 1, 2}, {3, 2, 1, 2}, {5, 2, 2, 2},
		{1, 2, 2, 2}, {1, 2, 2, 2}, {3, 2, 2, 2}, {1, 2, 2, 2}, {1, 2, 2, 2}, {1, 2, 2, 2}, {1, 2, 2, 2}, {8, 2, 2, 2}, {2, 2, 2, 2},
	}
	for fuel := int64(-2); fuel < 130; fuel++ {
		want := api.Outcome{Result: 4}
		done := step{}
		for _, x := range l {
			want.Clock += x.cost
			if want.Clock > max(fuel, 0) {
				want.Err, want.Result = api.ErrFuel, 0
				break
			}
			done = x
		}
		want.Prints, want.Keeps, want.Clocks = []int64{3, 51}[:done.prints], []int64{2, 81}[:done.keeps], []int64{51, 81}[:done.clocked]
		a := with(&tells{body: body, fast: true, charge: 25})
		a.fuel = fuel
		a.does(t, all(main, "push 0, return", 1), told(want))
	}
}

// N2: a fuel that is below 0 is none; one that is above 2^40 is no less than much.
func TestN2FuelsOfAnySize(t *testing.T) {
	for fuel, want := range map[int64]string{
		least: "{[] [] [] 1 0 error 8}", -1 << 40: "{[] [] [] 1 0 error 8}", -1: "{[] [] [] 1 0 error 8}", 0: "{[] [] [] 1 0 error 8}", 1: "{[] [] [] 6 0 error 8}", 5: "{[] [] [] 6 0 error 8}", 6: "{[1] [] [] 7 0 error 8}", 8: "{[1] [] [] 9 0 error 8}",
		9: "{[1] [] [] 9 5 error 0}", 10: "{[1] [] [] 9 5 error 0}", 1 << 32: "{[1] [] [] 9 5 error 0}", 1 << 40: "{[1] [] [] 9 5 error 0}", 1<<40 + 1: "{[1] [] [] 9 5 error 0}", most: "{[1] [] [] 9 5 error 0}",
	} {
		a := enough()
		a.fuel = fuel
		a.does(t, alone("push 1, print, push 5, return"), want)
	}
}

// N2: all ends, whatever is done again and again, also where it is fast.
func TestN2AllEnds(t *testing.T) {
	for _, s := range []string{
		"jump 0", "push 1, push 2, push 3, print, print, print, jump 0", "load 0, zero 0, push 0, return", "clock, print, jump 0", "input 0 1, jump 0", "push 0, call 2, store 0, jump 0", "load 0, push 1, add, store 0, jump 0",
	} {
		for _, fuel := range []int64{0, 1, 1000, 5000, 200000} {
			for _, fast := range []bool{false, true} {
				a := with(only(1, written(s), fast))
				a.fuel = fuel
				for _, c := range []code.Code{all(s, "push 0, return", 0, "push 0, return", 1), all("call 1, return", s, 0, "push 0, return", 1), all("call 1, return", "push 0, return", 0, "push 0, return", 1)} {
					if out := a.of(c); out.Err != api.ErrFuel || out.Clock <= fuel || out.Clock > fuel+10 || out.Result != 0 {
						t.Errorf("%q: %d: %d, %v", s, fuel, out.Clock, out.Err)
					}
				}
			}
		}
	}
}

// N2: what ends all ahead of the fuel is told as that; a charge that is refused comes
// ahead of what it is for.
func TestN2FuelOrElse(t *testing.T) {
	for _, x := range []struct {
		s    string
		at   int64 // what all costs, up to the charge for what ends all
		want api.Errno
	}{
		{"push 1, push 0, div", 10, api.ErrTrap}, {"push 1, push 0, mod", 10, api.ErrTrap}, {"array 0 1, push 1, get 0", 24, api.ErrTrap}, {"array 0 1, push 1, push 2, set 0", 25, api.ErrTrap}, {"array 0 4000, array 0 4000, array 0 4000", 60, api.ErrQuota},
		{"call 1", 650, api.ErrDepth}, {"push 7, return", 3, api.OK},
	} {
		for fuel := x.at - 3; fuel < x.at+3; fuel++ {
			a := enough()
			a.fuel = fuel
			want := x.want
			if fuel < x.at {
				want = api.ErrFuel
			}
			out := a.of(all(x.s+over, "call 1, return", 0))
			if out.Err != want || want != api.ErrFuel && out.Clock != x.at || (out.Result != 0) != (want == api.OK) {
				t.Errorf("%q: %d: %s, want %v", x.s, fuel, told(out), want)
			}
		}
	}
}

// N2: a tier's charge below 0 is 0, one above 2^40 is 2^40; it is charged whatever the
// body is, ahead of what the body does.
func TestN2TierCharges(t *testing.T) {
	c := all("call 1, print"+over, "push 5, print, push 6, return", 0)
	for _, x := range []*tells{{}, {fast: true}, {body: c.Fns[1].L}, {body: written("none")}, {body: written("none"), fast: true}} {
		for charge, want := range map[int64]int64{0: 0, -1: 0, -77: 0, -1 << 40: 0, least: 0, 1: 1, 2: 2, 500: 500, 90000: 90000} {
			x.charge = charge
			with(x).does(t, c, fmt.Sprintf("{[5 6] [] [] %d 0 error 0}", 27+want))
		}
		for charge, want := range map[int64]int64{99991: 99991, 1 << 39: 1 << 39, 1<<40 - 1: 1<<40 - 1, 1 << 40: 1 << 40, 1<<40 + 1: 1 << 40, 1 << 41: 1 << 40, 1 << 62: 1 << 40, most: 1 << 40} {
			x.charge = charge
			with(x).does(t, c, fmt.Sprintf("{[] [] [] %d 0 error 8}", 10+want))
			a := with(x)
			a.fuel = most
			if charge < 1<<40-1000 {
				a.does(t, c, fmt.Sprintf("{[5 6] [] [] %d 0 error 0}", 27+want))
			} else {
				a.does(t, c, fmt.Sprintf("{[] [] [] %d 0 error 8}", 10+want))
			}
		}
	}
	// As much as is left of the fuel may be charged; then the body's first step is refused.
	a := with(&tells{charge: 90})
	a.fuel = 100
	a.does(t, c, "{[] [] [] 101 0 error 8}")
	a.fuel = 99
	a.does(t, c, "{[] [] [] 100 0 error 8}")
	a.fuel = 9
	a.does(t, c, "{[] [] [] 10 0 error 8}")
}
