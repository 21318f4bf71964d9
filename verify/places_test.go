package verify

import (
	"fmt"
	"testing"

	"evenhand/code"
)

func jump(a int) code.Ins { return ins(code.Jump, a) }

func zero(a int) code.Ins { return ins(code.Zero, a) }

// J1: A of Jump and of Zero is a place.
func TestJ1Goals(t *testing.T) {
	for n := 1; n < 6; n++ {
		for _, a := range append(far(), 0, 1, 2, 3, 4, 5, 6, 7, 8, 9) {
			// n Jumps: each goes on with the next one, but the last one.
			var l []code.Ins
			for i := range n - 1 {
				l = append(l, jump(i+1))
			}
			mainIs(t, a >= 0 && a < n, l, jump(a))
			// At the places are depths 0, 1, 0, 0 and so on.
			l = list(push(), zero(a), times(n, ins(code.Input)), end())
			mainIs(t, a == 0 || a >= 2 && a < n+3, l)
		}
	}
}

// J1: a Jump and a Zero to itself, backwards, and to the first place.
func TestJ1Back(t *testing.T) {
	mainIs(t, true, jump(0))
	mainIs(t, true, push(), jump(1))
	mainIs(t, true, times(9, push()), jump(9))
	mainIs(t, true, ins(code.Input), ins(code.Input), jump(1))
	mainIs(t, true, ins(code.Input), ins(code.Input), jump(0))
	mainIs(t, false, push(), jump(0))
	mainIs(t, false, push(), push(), jump(1))
	mainIs(t, true, push(), ins(code.Neg), jump(1))
	mainIs(t, true, push(), ins(code.Print), jump(0))
	mainIs(t, false, push(), ins(code.Print), jump(1))
	// What a Zero takes is gone: it never comes by itself again.
	mainIs(t, false, zero(0), end())
	mainIs(t, false, push(), zero(1), end())
	mainIs(t, false, push(), push(), push(), zero(3), end())
	mainIs(t, true, push(), zero(0), end())
	mainIs(t, true, push(), push(), zero(1), ins(code.Return))
	mainIs(t, false, push(), push(), zero(0), ins(code.Return))
	mainIs(t, true, ins(code.Input), push(), zero(1), end())
	mainIs(t, true, ins(code.Input), push(), zero(0), end())
	mainIs(t, true, push(), zero(0), jump(0))
	mainIs(t, true, push(), zero(0), push(), zero(0), push(), zero(2), jump(0))
}

// J1: no instruction goes on behind the end; a Zero may not, though it goes on
// elsewhere too.
func TestJ1BehindTheEnd(t *testing.T) {
	for _, k := range kinds() {
		if k.op == code.Jump {
			continue
		}
		in := may(k.op, 0) // a Zero goes where the depth is 1, as behind it
		asks(t, with(list(push(), push(), in)), k.op == code.Return, code.Name(k.op))
		in = may(k.op, 2)
		asks(t, with(list(jump(2), ins(code.Return), push(), push(), in)), k.op == code.Return, code.Name(k.op))
	}
	mainIs(t, true, push(), ins(code.Neg), jump(1))
	mainIs(t, false, push(), ins(code.Neg), jump(3))
	mainIs(t, false, push(), ins(code.Call, 2))
	mainIs(t, false, ins(code.Call, 1))
	mainIs(t, false, push(), zero(0))
	mainIs(t, false, push(), zero(4), push(), ins(code.Return), ins(code.Input))
	mainIs(t, false, push(), zero(3), jump(1), push())
	mainIs(t, true, push(), zero(4), push(), ins(code.Return), ins(code.Input), jump(0))
}

// J1: a place that is reached by several ways, with one depth.
func TestJ1OneDepth(t *testing.T) {
	// An If with Else, and one without.
	mainIs(t, true, push(), zero(5), push(), ins(code.Print), jump(7), push(), ins(code.Keep), end())
	mainIs(t, true, push(), zero(4), push(), ins(code.Print), end())
	// Both ways leave one number, then both leave two.
	mainIs(t, true, push(), zero(4), push(), jump(5), ins(code.Clock), ins(code.Return))
	mainIs(t, true, push(), zero(5), push(), push(), jump(7), ins(code.Clock), ins(code.Load), ins(code.Add), ins(code.Return))
	// By a Jump, by a Zero, and from ahead; a Zero to the place behind it.
	mainIs(t, true, push(), zero(6), push(), zero(5), jump(6), ins(code.Input), end())
	mainIs(t, true, push(), zero(2), end())
	mainIs(t, true, push(), push(), zero(3), ins(code.Return))
	mainIs(t, true, push(), jump(2), push(), ins(code.Add), ins(code.Return))
}

// J1: a place that is reached with two depths, though both would do.
func TestJ1TwoDepths(t *testing.T) {
	mainIs(t, false, push(), zero(3), push(), push(), ins(code.Return))
	mainIs(t, false, push(), push(), zero(4), push(), push(), ins(code.Return))
	mainIs(t, false, push(), zero(4), push(), jump(6), push(), push(), ins(code.Return))
	mainIs(t, false, push(), zero(5), push(), push(), jump(6), push(), push(), ins(code.Return))
	mainIs(t, false, times(9, push()), zero(11), ins(code.Print), ins(code.Return))
	// At the first place, by a Jump and by a Zero.
	mainIs(t, false, ins(code.Clock), ins(code.Load), zero(0), ins(code.Return))
	mainIs(t, false, ins(code.Clock), ins(code.Load), jump(0))
	// A loop that leaves a number each time, and one that takes one.
	mainIs(t, false, push(), push(), zero(5), push(), jump(1), ins(code.Return))
	mainIs(t, false, times(9, push()), push(), zero(13), ins(code.Print), jump(9), ins(code.Return))
	mainIs(t, true, times(9, push()), push(), zero(13), ins(code.Input), jump(9), ins(code.Return))
}

// J1: likewise, but the second way is a long one, on either side.
func TestJ1LateDepths(t *testing.T) {
	for _, n := range []int{1, 2, 5, 50, 3000} {
		for extra := range 3 {
			// Zero goes to the end, or on over n places that leave so many more.
			l := list(push(), zero(2+n+extra), times(extra, push()), times(n, ins(code.Input)), end())
			asks(t, with(l), extra == 0, n, " and ", extra)
			// The long way is the Zero's: from behind the end back to it.
			l = list(push(), zero(4), end(), times(n, ins(code.Input)), times(extra, push()), jump(2))
			asks(t, with(l), extra == 0, n, " and ", extra)
		}
	}
}

// J1: what is not reached is not looked at.
func TestJ1NotReached(t *testing.T) {
	var rubbish []code.Ins
	for _, n := range far() {
		rubbish = append(rubbish, ins(n, n, n), ins(code.Load, n), ins(code.Call, n), ins(code.Jump, n), ins(code.Zero, n), ins(code.Array, 0, n))
	}
	for _, op := range notKnown() {
		rubbish = append(rubbish, ins(op))
	}
	rubbish = append(rubbish, ins(code.Return), ins(code.Add), ins(code.Print), ins(code.Input, 0, 2), ins(code.Array), ins(code.Set, 1), ins(code.Call, 0))
	for i, in := range rubbish {
		mainIs(t, true, end(), in)
		mainIs(t, true, jump(2), in, end())
		mainIs(t, true, jump(0), in)
		mainIs(t, true, push(), zero(4), end(), end(), in)
		mainIs(t, true, jump(3), in, in, jump(6), in, in, end(), in)
		mainIs(t, true, push(), zero(3), jump(5), push(), ins(code.Return), end(), in)
		asks(t, fns(code.Fn{L: end()}, code.Fn{L: list(end(), in)}, code.Fn{L: list(jump(2), in, end())}), true, i)
	}
	mainIs(t, true, end(), rubbish)
	mainIs(t, true, jump(1+len(rubbish)), rubbish, end(), rubbish)
	// What would reach others is not reached itself.
	mainIs(t, true, jump(3), push(), jump(4), push(), ins(code.Return))
	mainIs(t, true, end(), push(), jump(0))
	mainIs(t, true, end(), push(), jump(1))
	mainIs(t, true, end(), push())
}

// J1: and all that is reached is looked at, by whichever way.
func TestJ1Reached(t *testing.T) {
	for _, in := range []code.Ins{ins(0), ins(26), ins(code.Load, 3), ins(code.Add), ins(code.Return), ins(code.Call, 10), jump(-1), zero(0), ins(code.Array, 2, 1)} {
		mainIs(t, false, in, end())
		mainIs(t, false, jump(1), in, end())
		mainIs(t, false, jump(3), end(), in, end())
		mainIs(t, false, push(), zero(4), end(), in, end())
		mainIs(t, false, push(), zero(3), in, end())
		mainIs(t, false, jump(3), in, end(), jump(1))
		for n := range 40 {
			// A Zero for each: the last one of the places is wrong.
			var l []code.Ins
			for i := range n {
				l = append(l, push(), zero(2*i+2))
			}
			mainIs(t, false, l, in, end())
			mainIs(t, true, l, end(), in)
		}
		asks(t, fns(code.Fn{L: end()}, code.Fn{L: end()}, code.Fn{Vars: 3, Arrays: 2, L: list(in, end())}), false, fmt.Sprint(in))
	}
}
