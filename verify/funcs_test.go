package verify

import (
	"math"
	"testing"

	"evenhand/code"
)

// many are n functions that are right.
func many(n int) (l []code.Fn) {
	for range n {
		l = append(l, code.Fn{L: end()})
	}
	return l
}

// J1: from 1 to 33 functions.
func TestJ1Functions(t *testing.T) {
	asks(t, code.Code{}, false)
	asks(t, code.Code{Fns: []code.Fn{}}, false)
	for n := range 100 {
		asks(t, fns(many(n)...), n >= 1 && n <= 33, n)
	}
	asks(t, fns(many(5000)...), false)
	asks(t, fns(make([]code.Fn, 5)...), false)
}

// J1: Params from 0 to 8, and not above Vars; Vars from 0 to 64.
func TestJ1ParamsAndVars(t *testing.T) {
	l := append(far(), 0, 1, 2, 7, 8, 9, 10, 16, 63, 64, 65, 66)
	for _, params := range l {
		for _, vars := range l {
			want := 0 <= params && params <= 8 && 0 <= vars && vars <= 64 && params <= vars
			asks(t, fns(code.Fn{L: end()}, code.Fn{Params: params, Vars: vars, L: end()}), want, params, " of ", vars)
			asks(t, fns(code.Fn{Params: params, Vars: vars, L: end()}, code.Fn{L: end()}), want && params == 0, params, " of ", vars, " of main")
		}
	}
	for params := -10; params < 20; params++ {
		for vars := -10; vars < 80; vars++ {
			want := 0 <= params && params <= 8 && vars <= 64 && params <= vars
			asks(t, fns(code.Fn{Vars: 64, L: end()}, code.Fn{Params: params, Vars: vars, L: end()}), want, params, " of ", vars)
		}
	}
}

// J1: Arrays from 0 to 64; Params and Vars are nothing to them.
func TestJ1ArraysOfFunctions(t *testing.T) {
	for _, n := range append(far(), 0, 1, 2, 8, 9, 63, 64, 65, 66) {
		asks(t, fns(code.Fn{Arrays: n, L: end()}), 0 <= n && n <= 64, n)
		asks(t, fns(code.Fn{L: end()}, code.Fn{Arrays: n, L: end()}), 0 <= n && n <= 64, n)
		asks(t, fns(code.Fn{L: end()}, code.Fn{Params: 8, Vars: 64, Arrays: n, L: end()}), 0 <= n && n <= 64, n)
	}
}

// J1: main has no Params; all others may have.
func TestJ1Main(t *testing.T) {
	for n := range 9 {
		asks(t, fns(code.Fn{Params: n, Vars: 8, L: end()}), n == 0, n)
		asks(t, fns(code.Fn{Params: n, Vars: 8, L: end()}, code.Fn{L: end()}), n == 0, n)
		asks(t, fns(code.Fn{L: end()}, code.Fn{Params: n, Vars: 8, L: end()}), true, n)
	}
}

// J1: each function has instructions.
func TestJ1NoInstructions(t *testing.T) {
	for _, l := range [][]code.Ins{nil, {}, end()[:0]} {
		asks(t, fns(code.Fn{L: l}), false)
		asks(t, fns(code.Fn{L: l}, code.Fn{L: end()}), false)
		asks(t, fns(code.Fn{L: end()}, code.Fn{L: l}), false)
		asks(t, fns(code.Fn{L: end()}, code.Fn{Vars: 3, L: l}, code.Fn{L: end()}), false)
	}
}

// J1: a function that is wrong makes all wrong, wherever it stands, called or
// not, and for whichever reason.
func TestJ1WrongAnywhere(t *testing.T) {
	for _, wrong := range []code.Fn{
		{}, {Params: -1, L: end()}, {Params: 1, L: end()}, {Params: 9, Vars: 9, L: end()}, {Vars: -1, L: end()}, {Vars: 65, L: end()}, {Arrays: -1, L: end()}, {Arrays: 65, L: end()},
		{L: list(ins(code.Return))}, {L: list(push())}, {L: list(ins(0), end())}, {L: list(ins(code.Load), end())}, {L: list(jump(1))},
		{L: list(push(), jump(0))}, {L: list(ins(code.Call, 0), end())}, {L: list(ins(code.Call, 99), end())},
	} {
		for n := 1; n <= 33; n += 4 {
			for at := range n {
				l := many(n)
				l[at] = wrong
				asks(t, fns(l...), false, at, " of ", n)
				if at > 0 {
					l[0].L = list(ins(code.Call, at), ins(code.Return))
					asks(t, fns(l...), false, at, " of ", n)
				}
			}
		}
	}
}

// J1: a Call is of a function, not of main.
func TestJ1Callee(t *testing.T) {
	for _, n := range []int{1, 2, 3, 32, 33} {
		for _, a := range append(far(), 0, 1, 2, 3, 4, 31, 32, 33, 34) {
			for at := range n {
				l := many(n)
				l[at].L = list(ins(code.Call, a), ins(code.Return))
				asks(t, fns(l...), a >= 1 && a < n, at, " calls ", a, " of ", n)
			}
		}
	}
}

// J1: functions that call each other, and themselves: what is taken hangs on who
// is called, not on who calls.
func TestJ1Calls(t *testing.T) {
	calls := func(params, a, depth int) code.Fn {
		return code.Fn{Params: params, Vars: params, L: list(times(depth, push()), ins(code.Call, a), ins(code.Return))}
	}
	for own := range 9 {
		for other := range 9 {
			for depth := range 10 {
				asks(t, fns(code.Fn{L: end()}, calls(own, 2, depth), calls(other, 1, own)), depth >= other, own, " calls ", other, " with ", depth)
				asks(t, fns(code.Fn{L: end()}, calls(own, 1, depth), calls(other, 2, other)), depth >= own, own, " calls itself with ", depth)
			}
		}
	}
	// 32 that call the next one, the last one the first one.
	for n := 1; n <= 32; n++ {
		l := []code.Fn{{L: list(ins(code.Call, 1), ins(code.Return))}}
		for i := range n {
			next := (i + 1) % n
			l = append(l, calls(i%9, 1+next, next%9))
		}
		asks(t, fns(l...), true, n)
		l[n].L = l[n].L[:len(l[n].L)-1]
		asks(t, fns(l...), false, n)
	}
}

// J1: a Call of a function that has Params that may not be.
func TestJ1CalleesParams(t *testing.T) {
	for _, params := range append(far(), -8, 9, 10, 64) {
		for _, vars := range []int{params, 0, 64, math.MaxInt} {
			for _, depth := range []int{0, 1, 8, 9, 10, 64, 70} {
				f := code.Fn{Params: params, Vars: vars, L: end()}
				caller := code.Fn{L: list(times(depth, push()), ins(code.Call, 1), ins(code.Return))}
				asks(t, fns(caller, f), false, params, " of ", vars)
				asks(t, fns(code.Fn{L: end()}, f, caller), false, params, " of ", vars)
				caller.L = list(times(depth, push()), ins(code.Call, 1), jump(0))
				asks(t, fns(caller, f), false, params, " of ", vars)
			}
		}
	}
}

// J1: names mean nothing.
func TestJ1Names(t *testing.T) {
	for _, name := range []string{"", "f", "main", "if", "\x00", "ä", "F"} {
		asks(t, fns(code.Fn{Name: name, L: end()}), true, name)
		asks(t, fns(code.Fn{Name: name, L: end()}, code.Fn{Name: name, L: end()}), true, name)
		asks(t, fns(code.Fn{Name: name, L: end()}, code.Fn{Name: name}), false, name)
	}
}
