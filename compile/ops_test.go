package compile

import (
	"math"
	"testing"

	"evenhand/api"
	"evenhand/code"
)

// I1: the chapter's example.
func TestI1Example(t *testing.T) {
	mainOf(t, "print 1 + 2;", ins{code.Push, 0, 1}, ins{code.Push, 0, 2}, ins{code.Add, 0, 0}, ins{code.Print, 0, 0})
	c, _ := Compile(program(t, "print 1 + 2;"))
	if len(c.Fns) != 1 || code.Text(c.Fns[0].L) != "0 push 1\n1 push 2\n2 add\n3 print\n4 push 0\n5 return\n" {
		t.Error(told(c))
	}
}

// I1: each expression that has no parts.
func TestI1Leaves(t *testing.T) {
	for _, n := range []int64{0, 1, 2, 25, 4096, 4097, 1 << 32, math.MaxInt64 - 1, math.MaxInt64} {
		compiles(t, "a number", first(do(api.Print, "", number(n))), fn{l: []ins{{code.Push, 0, n}, {code.Print, 0, 0}}})
	}
	compiles(t, "clock", first(do(api.Print, "", of(api.Clock, ""))), fn{l: []ins{{code.Clock, 0, 0}, {code.Print, 0, 0}}})
	mainOf(t, "print x; print Y; print x; print z; print Y;",
		ins{code.Load, 0, 0}, ins{code.Print, 0, 0}, ins{code.Load, 1, 0}, ins{code.Print, 0, 0}, ins{code.Load, 0, 0}, ins{code.Print, 0, 0},
		ins{code.Load, 2, 0}, ins{code.Print, 0, 0}, ins{code.Load, 1, 0}, ins{code.Print, 0, 0})
}

// I1: each expression of one or two parts: these in order, then the instruction
// of the same name.
func TestI1Operations(t *testing.T) {
	for op, want := range map[int]int{api.Neg: code.Neg, api.Not: code.Not} {
		compiles(t, code.Name(want), first(do(api.Print, "", of(op, "", number(7)))),
			fn{l: []ins{{code.Push, 0, 7}, {want, 0, 0}, {code.Print, 0, 0}}})
	}
	two := map[int]int{
		api.Add: code.Add, api.Sub: code.Sub, api.Mul: code.Mul, api.Div: code.Div, api.Mod: code.Mod,
		api.Less: code.Less, api.Same: code.Same, api.And: code.And, api.Or: code.Or,
	}
	for op, want := range two {
		compiles(t, code.Name(want), first(do(api.Keep, "", of(op, "", number(7), ref("x")))),
			fn{vars: 1, l: []ins{{code.Push, 0, 7}, {code.Load, 0, 0}, {want, 0, 0}, {code.Keep, 0, 0}}})
		compiles(t, code.Name(want)+" turned", first(do(api.Keep, "", of(op, "", ref("x"), number(7)))),
			fn{vars: 1, l: []ins{{code.Load, 0, 0}, {code.Push, 0, 7}, {want, 0, 0}, {code.Keep, 0, 0}}})
	}
	for s, want := range map[string]int{
		"1+2": code.Add, "1-2": code.Sub, "1*2": code.Mul, "1/2": code.Div, "1%2": code.Mod, "1<2": code.Less, "1==2": code.Same, "1&2": code.And, "1|2": code.Or,
	} {
		mainOf(t, "return "+s+";", ins{code.Push, 0, 1}, ins{code.Push, 0, 2}, ins{want, 0, 0}, ins{code.Return, 0, 0})
	}
}

// I1: Index: its part, then Get of the array's place.
func TestI1Index(t *testing.T) {
	const arrays = "array a 1; array B 2; array c 3; "
	l := []ins{{code.Array, 0, 1}, {code.Array, 1, 2}, {code.Array, 2, 3}}
	mainOf(t, arrays+"print a[5];", append(l[:3:3], ins{code.Push, 0, 5}, ins{code.Get, 0, 0}, ins{code.Print, 0, 0})...)
	mainOf(t, arrays+"print B[x];", append(l[:3:3], ins{code.Load, 0, 0}, ins{code.Get, 1, 0}, ins{code.Print, 0, 0})...)
	mainOf(t, arrays+"print c[a[B[1] + 2]];", append(l[:3:3],
		ins{code.Push, 0, 1}, ins{code.Get, 1, 0}, ins{code.Push, 0, 2}, ins{code.Add, 0, 0}, ins{code.Get, 0, 0}, ins{code.Get, 2, 0}, ins{code.Print, 0, 0})...)
}

// I1: parts within parts, each ahead of what is made of it, the left ones first.
func TestI1Parts(t *testing.T) {
	mainOf(t, "print (1 - x) * (-2 + !y) - 3;",
		ins{code.Push, 0, 1}, ins{code.Load, 0, 0}, ins{code.Sub, 0, 0},
		ins{code.Push, 0, 2}, ins{code.Neg, 0, 0}, ins{code.Load, 1, 0}, ins{code.Not, 0, 0}, ins{code.Add, 0, 0},
		ins{code.Mul, 0, 0}, ins{code.Push, 0, 3}, ins{code.Sub, 0, 0}, ins{code.Print, 0, 0})
	mainOf(t, "print 1 - (2 - (clock - 4));",
		ins{code.Push, 0, 1}, ins{code.Push, 0, 2}, ins{code.Clock, 0, 0}, ins{code.Push, 0, 4}, ins{code.Sub, 0, 0}, ins{code.Sub, 0, 0}, ins{code.Sub, 0, 0}, ins{code.Print, 0, 0})
	// Nothing is reckoned ahead, and nothing left out: that is for others (16).
	mainOf(t, "x = x + 0; print --!!1; if 0 { print 1 / 0; }",
		ins{code.Load, 0, 0}, ins{code.Push, 0, 0}, ins{code.Add, 0, 0}, ins{code.Store, 0, 0},
		ins{code.Push, 0, 1}, ins{code.Not, 0, 0}, ins{code.Not, 0, 0}, ins{code.Neg, 0, 0}, ins{code.Neg, 0, 0}, ins{code.Print, 0, 0},
		ins{code.Push, 0, 0}, ins{code.Zero, 17, 0}, ins{code.Push, 0, 1}, ins{code.Push, 0, 0}, ins{code.Div, 0, 0}, ins{code.Print, 0, 0}, ins{code.Jump, 17, 0})
}

// I1: each statement without blocks.
func TestI1Statements(t *testing.T) {
	for _, x := range []struct {
		s    api.Stmt
		want fn
	}{
		{do(api.Assign, "x", number(5)), fn{vars: 1, l: []ins{{code.Push, 0, 5}, {code.Store, 0, 0}}}},
		{do(api.Assign, "x", ref("y")), fn{vars: 2, l: []ins{{code.Load, 1, 0}, {code.Store, 0, 0}}}},
		{api.Stmt{Op: api.Array, Name: "a", N: 1}, fn{arrays: 1, l: []ins{{code.Array, 0, 1}}}},
		{api.Stmt{Op: api.Array, Name: "A", N: 4096}, fn{arrays: 1, l: []ins{{code.Array, 0, 4096}}}},
		{do(api.Input, "x"), fn{vars: 1, l: []ins{{code.Input, 0, 0}}}},
		{do(api.Input, "X"), fn{vars: 1, l: []ins{{code.Input, 0, 1}}}},
		{do(api.Print, "", number(5)), fn{l: []ins{{code.Push, 0, 5}, {code.Print, 0, 0}}}},
		{do(api.Keep, "", number(5)), fn{l: []ins{{code.Push, 0, 5}, {code.Keep, 0, 0}}}},
		{do(api.Return, "", number(5)), fn{l: []ins{{code.Push, 0, 5}, {code.Return, 0, 0}}}},
		{do(api.If, "", number(5)), fn{l: []ins{{code.Push, 0, 5}, {code.Zero, 3, 0}, {code.Jump, 3, 0}}}},
		{do(api.While, "", number(5)), fn{l: []ins{{code.Push, 0, 5}, {code.Zero, 3, 0}, {code.Jump, 0, 0}}}},
	} {
		compiles(t, "statement", first(x.s), x.want)
	}
	mainOf(t, "array a 2; array b 9; b[x] = y + 1; a[b[0]] = 7;",
		ins{code.Array, 0, 2}, ins{code.Array, 1, 9},
		ins{code.Load, 0, 0}, ins{code.Load, 1, 0}, ins{code.Push, 0, 1}, ins{code.Add, 0, 0}, ins{code.Set, 1, 0},
		ins{code.Push, 0, 0}, ins{code.Get, 1, 0}, ins{code.Push, 0, 7}, ins{code.Set, 0, 0})
	mainOf(t, "x = 1; Y = x; x = Y; z = x; Y = z;",
		ins{code.Push, 0, 1}, ins{code.Store, 0, 0}, ins{code.Load, 0, 0}, ins{code.Store, 1, 0}, ins{code.Load, 1, 0}, ins{code.Store, 0, 0},
		ins{code.Load, 0, 0}, ins{code.Store, 2, 0}, ins{code.Load, 2, 0}, ins{code.Store, 1, 0})
	// Behind a Return all goes on as ever, and the end stands there again.
	mainOf(t, "return 1; return 0; print 2;", ins{code.Push, 0, 1}, ins{code.Return, 0, 0}, ins{code.Push, 0, 0}, ins{code.Return, 0, 0}, ins{code.Push, 0, 2}, ins{code.Print, 0, 0})
}

// I1: Input of each kind of name: N is 1 just if the first letter is great; A is
// the place, whichever kind it is.
func TestI1Inputs(t *testing.T) {
	const small = "abcdefghijklmnopqrstuvwxyz"
	const great = "ABCDEFGHIJKLMNOPQRSTUVWXYZ"
	for i := range small {
		compiles(t, small[i:i+1], first(do(api.Input, small[i:i+1])), fn{vars: 1, l: []ins{{code.Input, 0, 0}}})
		compiles(t, great[i:i+1], first(do(api.Input, great[i:i+1])), fn{vars: 1, l: []ins{{code.Input, 0, 1}}})
	}
	mainOf(t, "input x; input Y; input xY; input Yx; input x_Z; input Y; input x;",
		ins{code.Input, 0, 0}, ins{code.Input, 1, 1}, ins{code.Input, 2, 0}, ins{code.Input, 3, 1}, ins{code.Input, 4, 0}, ins{code.Input, 1, 1}, ins{code.Input, 0, 0})
}
