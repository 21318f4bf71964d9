package verify

import (
	"testing"

	"evenhand/code"
)

// may is an instruction of this op that may stand at a place: A and N are right.
func may(op, at int) code.Ins {
	switch op {
	case code.Jump, code.Zero:
		return ins(op, at+1)
	case code.Array:
		return ins(op, 1, 1)
	}
	return ins(op)
}

// J1: the chapter's examples.
func TestJ1Examples(t *testing.T) {
	mainIs(t, true, push(), ins(code.Return))
	mainIs(t, false, ins(code.Return))
	asks(t, fns(code.Fn{L: end()}), true)
	asks(t, fns(code.Fn{L: []code.Ins{ins(code.Return)}}), false)
}

// J1: each op at each depth that it may have, and at those less; what it leaves.
func TestJ1EachDepth(t *testing.T) {
	if n := len(kinds()); n != 24 {
		t.Fatal(n, "ops")
	}
	for _, k := range kinds() {
		for _, depth := range []int{0, 1, 2, 3, 4, 5, 63, 64, 65, 100, 1000} {
			in := may(k.op, depth)
			asks(t, with(list(times(depth, push()), in, end())), depth >= k.takes, code.Name(k.op), " at ", depth)
			if depth >= k.takes && k.op != code.Return {
				mainLeaves(t, depth-k.takes+k.leaves, times(depth, push()), in)
			}
		}
	}
}

// J1: a Call takes as many as its function has Params, and leaves one.
func TestJ1CallDepths(t *testing.T) {
	for params := range 9 {
		for depth := range 12 {
			in := ins(code.Call, params+1)
			asks(t, with(list(times(depth, push()), in, end())), depth >= params, params, " Params at ", depth)
			if depth >= params {
				mainLeaves(t, depth-params+1, times(depth, push()), in)
			}
		}
	}
}

// J1: a Return takes one, and may leave any number there.
func TestJ1Return(t *testing.T) {
	for _, depth := range []int{0, 1, 2, 3, 9, 64, 65, 4096, 4097, 70000} {
		mainIs(t, depth > 0, times(depth, push()), ins(code.Return))
		mainIs(t, depth > 0, times(depth, ins(code.Load, 2)), ins(code.Return))
		asks(t, fns(code.Fn{L: end()}, code.Fn{Params: 1, Vars: 1, L: list(times(depth, ins(code.Load)), ins(code.Return))}), depth > 0, depth)
	}
}

// J1: main and functions begin with depth 0: their arguments are variables.
func TestJ1Begin(t *testing.T) {
	for params := range 9 {
		for _, k := range kinds() {
			f := code.Fn{Params: params, Vars: 8, Arrays: 2, L: list(may(k.op, 0), end())}
			asks(t, fns(code.Fn{L: end()}, f), k.takes == 0, code.Name(k.op), " with ", params)
		}
	}
}

// J1: what one leaves the next ones take.
func TestJ1Chains(t *testing.T) {
	load, add, less, neg := ins(code.Load, 1), ins(code.Add), ins(code.Less), ins(code.Neg)
	mainLeaves(t, 1, load, push(), add, neg, load, less)
	mainIs(t, false, load, push(), add, neg, less, end())
	mainLeaves(t, 0, load, push(), add, ins(code.Store, 2))
	mainIs(t, false, load, push(), add, ins(code.Store, 2), ins(code.Store, 2), end())
	mainLeaves(t, 1, push(), ins(code.Get), ins(code.Get, 1), ins(code.Clock), ins(code.Set, 1), ins(code.Clock))
	mainIs(t, false, push(), ins(code.Get), ins(code.Get, 1), ins(code.Set, 1), end())
	mainLeaves(t, 3, push(), push(), push(), ins(code.Call, 3), ins(code.Not), ins(code.Call, 1), ins(code.Call, 3), push())
	mainIs(t, false, push(), ins(code.Call, 2), ins(code.Call, 3), end())
	for n := 2; n < 200; n++ {
		mainLeaves(t, 1, times(n, push()), times(n-1, ins(code.Sub)))
		mainIs(t, false, times(n, push()), times(n, ins(code.Sub)), end())
	}
}

// J1: A of what names a variable.
func TestJ1Variables(t *testing.T) {
	for _, vars := range []int{0, 1, 2, 3, 8, 63, 64} {
		for _, a := range append(far(), 0, 1, 2, 3, 7, 8, 62, 63, 64, 65) {
			want := a >= 0 && a < vars
			for _, l := range [][]code.Ins{list(ins(code.Load, a)), list(push(), ins(code.Store, a)), list(ins(code.Input, a)), list(ins(code.Input, a, 1))} {
				// As many Arrays as may be, and other functions' Vars, mean nothing.
				f := code.Fn{Vars: vars, Arrays: 64, L: list(l, end())}
				asks(t, fns(f), want, a, " of ", vars)
				asks(t, fns(code.Fn{Vars: 64, Arrays: 64, L: end()}, f, code.Fn{Vars: 64, L: end()}), want, a, " of ", vars)
				f.Params = min(vars, 8)
				asks(t, fns(code.Fn{L: end()}, f), want, a, " of ", vars)
			}
		}
	}
}

// J1: A of what names an array.
func TestJ1Arrays(t *testing.T) {
	for _, arrays := range []int{0, 1, 2, 3, 63, 64} {
		for _, a := range append(far(), 0, 1, 2, 3, 62, 63, 64, 65) {
			want := a >= 0 && a < arrays
			for _, l := range [][]code.Ins{list(ins(code.Array, a, 5)), list(push(), ins(code.Get, a)), list(push(), push(), ins(code.Set, a))} {
				f := code.Fn{Vars: 64, Arrays: arrays, L: list(l, end())}
				asks(t, fns(f), want, a, " of ", arrays)
				asks(t, fns(code.Fn{Vars: 64, Arrays: 64, L: end()}, f, code.Fn{Arrays: 64, L: end()}), want, a, " of ", arrays)
			}
		}
	}
}

// J1: N of Input and of Array.
func TestJ1N(t *testing.T) {
	for _, n := range append(far(), 0, 1, 2, 3, 4, 4094, 4095, 4096, 4097, 4098) {
		mainIs(t, n == 0 || n == 1, ins(code.Input, 0, n), end())
		mainIs(t, n == 0 || n == 1, ins(code.Input, 2, n), end())
		mainIs(t, n >= 1 && n <= 4096, ins(code.Array, 0, n), end())
		mainIs(t, n >= 1 && n <= 4096, ins(code.Array, 1, n), end())
	}
}

// J1: A and N of other instructions are not looked at.
func TestJ1Others(t *testing.T) {
	for _, n := range append(far(), 0, 1, 2, 3, 25, 26) {
		for _, k := range kinds() {
			in := may(k.op, 2)
			switch k.op {
			case code.Input, code.Array:
				continue
			case code.Load, code.Store, code.Get, code.Set, code.Jump, code.Zero:
				in.N = int64(n)
			default:
				in.A, in.N = n, int64(n)-1
			}
			mainIs(t, true, push(), push(), in, end())
			mainIs(t, k.takes < 2, push(), jump(2), in, end())
		}
		mainIs(t, true, ins(code.Call, 1, n), end())
		mainIs(t, true, ins(code.Push, n, n), ins(code.Return, n, n))
	}
}
