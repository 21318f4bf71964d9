package compile

import (
	"fmt"
	"strings"
	"testing"

	"evenhand/api"
	"evenhand/code"
)

// I1: a program of no statements, and functions of none.
func TestI1Nothing(t *testing.T) {
	compiles(t, "nothing", api.Program{}, fn{})
	compiles(t, "nothing", api.Program{Funcs: []api.Func{}, Main: []api.Stmt{}}, fn{})
	compiles(t, "two of nothing", program(t, "func f() { } func G(a, B, c) { }"), fn{}, fn{name: "f"}, fn{name: "G", params: 3, vars: 3})
	c, err := Compile(api.Program{})
	if err != api.OK || len(c.Fns) != 1 || len(c.Fns[0].L) != 2 || c.Fns[0].L[0] != (code.Ins{Op: code.Push}) || c.Fns[0].L[1] != (code.Ins{Op: code.Return}) {
		t.Error(told(c), err)
	}
}

// I1: functions in order, main first, each with what it has.
func TestI1Functions(t *testing.T) {
	const text = `
		func zeta(a, B) { c = a; array d 2; d[0] = B; }
		func Alpha() { array x 1; array y 2; print x[y[0]]; }
		func mid(P) { return -P; }
		array m 3; array n 4; u = 1; input V; print w; print u;`
	compiles(t, text, program(t, text),
		fn{"", 0, 3, 2, []ins{
			{code.Array, 0, 3}, {code.Array, 1, 4}, {code.Push, 0, 1}, {code.Store, 0, 0}, {code.Input, 1, 1}, {code.Load, 2, 0}, {code.Print, 0, 0}, {code.Load, 0, 0}, {code.Print, 0, 0}}},
		fn{"zeta", 2, 3, 1, []ins{{code.Load, 0, 0}, {code.Store, 2, 0}, {code.Array, 0, 2}, {code.Push, 0, 0}, {code.Load, 1, 0}, {code.Set, 0, 0}}},
		fn{"Alpha", 0, 0, 2, []ins{{code.Array, 0, 1}, {code.Array, 1, 2}, {code.Push, 0, 0}, {code.Get, 1, 0}, {code.Get, 0, 0}, {code.Print, 0, 0}}},
		fn{"mid", 1, 1, 0, []ins{{code.Load, 0, 0}, {code.Neg, 0, 0}, {code.Return, 0, 0}}})
}

// I1: a Jump or a Zero's A is a place in its own function, wherever that stands.
func TestI1PlacesInFunctions(t *testing.T) {
	body := "while x { x = 1; } if x { } else { x = 2; }"
	l := []ins{
		{code.Load, 0, 0}, {code.Zero, 5, 0}, {code.Push, 0, 1}, {code.Store, 0, 0}, {code.Jump, 0, 0},
		{code.Load, 0, 0}, {code.Zero, 8, 0}, {code.Jump, 10, 0}, {code.Push, 0, 2}, {code.Store, 0, 0},
	}
	s := strings.ReplaceAll("func f(x) { @ } func g() { @ } func h() { } func i(x, y) { @ } @", "@", body)
	compiles(t, s, program(t, s), fn{"", 0, 1, 0, l}, fn{"f", 1, 1, 0, l}, fn{"g", 0, 1, 0, l}, fn{name: "h"}, fn{"i", 2, 2, 0, l})
}

// I1: calls out of main, of functions ahead of, at, and behind their own.
func TestI1Calls(t *testing.T) {
	const text = `
		func f(a) { return g(a, h()); }
		func g(b, C) { x = g(C, b); return f(x); }
		func h() { return h() + f(h()); }
		print g(f(1), 2); y = h();`
	compiles(t, text, program(t, text),
		fn{"", 0, 1, 0, []ins{{code.Push, 0, 1}, {code.Call, 1, 0}, {code.Push, 0, 2}, {code.Call, 2, 0}, {code.Print, 0, 0}, {code.Call, 3, 0}, {code.Store, 0, 0}}},
		fn{"f", 1, 1, 0, []ins{{code.Load, 0, 0}, {code.Call, 3, 0}, {code.Call, 2, 0}, {code.Return, 0, 0}}},
		fn{"g", 2, 3, 0, []ins{{code.Load, 1, 0}, {code.Load, 0, 0}, {code.Call, 2, 0}, {code.Store, 2, 0}, {code.Load, 2, 0}, {code.Call, 1, 0}, {code.Return, 0, 0}}},
		fn{"h", 0, 0, 0, []ins{{code.Call, 3, 0}, {code.Call, 3, 0}, {code.Call, 1, 0}, {code.Add, 0, 0}, {code.Return, 0, 0}}})
}

// I1: a Call of each number of parts, up to as many as may be, its parts in
// order.
func TestI1Arguments(t *testing.T) {
	params := strings.Split("a b C d e f G h", " ")
	for n := range 9 {
		var parts []string
		var want []ins
		for i := range n {
			parts = append(parts, fmt.Sprint(10+i))
			want = append(want, ins{code.Push, 0, int64(10 + i)})
		}
		want = append(want, ins{code.Call, 2, 0}, ins{code.Print, 0, 0})
		s := "func e() { } func f(" + strings.Join(params[:n], ", ") + ") { } print f(" + strings.Join(parts, ", ") + ");"
		compiles(t, s, program(t, s), fn{l: want}, fn{name: "e"}, fn{name: "f", params: n, vars: n})
	}
	const text = "func f(a, b, c, d, e, f, g, h) { return h; } array t 2; x = f(1 + 2, x, t[3], -y, clock, f(1, 2, 3, 4, 5, 6, 7, 8), !0, z);"
	compiles(t, text, program(t, text),
		fn{"", 0, 3, 1, []ins{
			{code.Array, 0, 2},
			{code.Push, 0, 1}, {code.Push, 0, 2}, {code.Add, 0, 0}, {code.Load, 0, 0}, {code.Push, 0, 3}, {code.Get, 0, 0}, {code.Load, 1, 0}, {code.Neg, 0, 0}, {code.Clock, 0, 0},
			{code.Push, 0, 1}, {code.Push, 0, 2}, {code.Push, 0, 3}, {code.Push, 0, 4}, {code.Push, 0, 5}, {code.Push, 0, 6}, {code.Push, 0, 7}, {code.Push, 0, 8}, {code.Call, 1, 0},
			{code.Push, 0, 0}, {code.Not, 0, 0}, {code.Load, 2, 0}, {code.Call, 1, 0}, {code.Store, 0, 0}}},
		fn{"f", 8, 8, 0, []ins{{code.Load, 7, 0}, {code.Return, 0, 0}}})
}

// I1: a name that is a parameter, a variable, an array and a function: each
// one's place is that in its own scope's row.
func TestI1OneNameManyThings(t *testing.T) {
	const text = `
		func f(n, m) { print m; print n; }
		func g(m) { q = m; n = q; input n; }
		func h() { array k 1; array n 5; n[m] = n[k[0]]; }
		func n(N) { print N; return n; }
		x = 1; n = n(x); array m 2; m[x] = n;`
	compiles(t, text, program(t, text),
		fn{"", 0, 2, 1, []ins{
			{code.Push, 0, 1}, {code.Store, 0, 0}, {code.Load, 0, 0}, {code.Call, 4, 0}, {code.Store, 1, 0}, {code.Array, 0, 2}, {code.Load, 0, 0}, {code.Load, 1, 0}, {code.Set, 0, 0}}},
		fn{"f", 2, 2, 0, []ins{{code.Load, 1, 0}, {code.Print, 0, 0}, {code.Load, 0, 0}, {code.Print, 0, 0}}},
		fn{"g", 1, 3, 0, []ins{{code.Load, 0, 0}, {code.Store, 1, 0}, {code.Load, 1, 0}, {code.Store, 2, 0}, {code.Input, 2, 0}}},
		fn{"h", 0, 1, 2, []ins{{code.Array, 0, 1}, {code.Array, 1, 5}, {code.Load, 0, 0}, {code.Push, 0, 0}, {code.Get, 0, 0}, {code.Get, 1, 0}, {code.Set, 1, 0}}},
		fn{"n", 1, 2, 0, []ins{{code.Load, 0, 0}, {code.Print, 0, 0}, {code.Load, 1, 0}, {code.Return, 0, 0}}})
}

// I1: the row is in the order of the text, not in that in which it is reckoned:
// the name of an Assign, a Put, an Index stands ahead of its parts.
func TestI1RowIsByTheText(t *testing.T) {
	mainOf(t, "x = y; print y;", ins{code.Load, 1, 0}, ins{code.Store, 0, 0}, ins{code.Load, 1, 0}, ins{code.Print, 0, 0})
	mainOf(t, "a[b[x]] = c[y]; array a 1; array b 2; array c 3;",
		ins{code.Load, 0, 0}, ins{code.Get, 1, 0}, ins{code.Load, 1, 0}, ins{code.Get, 2, 0}, ins{code.Set, 0, 0},
		ins{code.Array, 0, 1}, ins{code.Array, 1, 2}, ins{code.Array, 2, 3})
}

// I1: 32 functions, each called from main and from each other.
func TestI1MostFunctions(t *testing.T) {
	var funcs []string
	var want []fn
	var calls []ins
	for i, name := range names("f", 32) {
		funcs = append(funcs, fmt.Sprintf("func %s(a) { return f%d(%d); }", name, (i+7)%32, i))
		want = append(want, fn{name, 1, 1, 0, []ins{{code.Push, 0, int64(i)}, {code.Call, (i+7)%32 + 1, 0}, {code.Return, 0, 0}}})
		calls = append(calls, ins{code.Push, 0, 9}, ins{code.Call, i + 1, 0}, ins{code.Keep, 0, 0})
	}
	s := strings.Join(funcs, " ") + each(names("f", 32), "keep @(9);")
	compiles(t, s, program(t, s), append([]fn{{l: calls}}, want...)...)
}

// I1: as many variables and arrays as may be, in main and in a function.
func TestI1MostNames(t *testing.T) {
	var l []ins
	for i := range 64 {
		l = append(l, ins{code.Array, i, 7}, ins{code.Input, i, 0})
	}
	for i := range 64 {
		l = append(l, ins{code.Load, 63 - i, 0}, ins{code.Get, 63 - i, 0}, ins{code.Store, i, 0})
	}
	s := ""
	for i := range 64 {
		s += fmt.Sprintf("array a%d 7; input v%d; ", i, i)
	}
	for i := range 64 {
		s += fmt.Sprintf("v%d = a%d[v%d]; ", i, 63-i, 63-i)
	}
	compiles(t, s, program(t, s), fn{"", 0, 64, 64, l})
	s = "func f(v0, v1, v2, v3, v4, v5, v6, v7) { " + s + "} " + s
	compiles(t, s, program(t, s), fn{"", 0, 64, 64, l}, fn{"f", 8, 64, 64, l})
}
