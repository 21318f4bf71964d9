package compile

import (
	"reflect"
	"slices"
	"strings"
	"testing"

	"evenhand/api"
	"evenhand/code"
	"evenhand/scope"
	"evenhand/tree"
)

// refuses asks that a program has this error, and no code, and stays as it was.
func refuses(t *testing.T, want api.Errno, p api.Program, what string) {
	t.Helper()
	before := copied(p)
	c, err := Compile(p)
	if err != want || len(c.Fns) != 0 {
		t.Errorf("%.300s: %d functions, %v, want %v", what, len(c.Fns), err, want)
	}
	if !reflect.DeepEqual(p, before) {
		t.Errorf("%.300s: is not as it was", what)
	}
}

func refusesText(t *testing.T, want api.Errno, s string) {
	t.Helper()
	refuses(t, want, program(t, s), s)
}

// copied is a program that shares nothing with another one.
func copied(p api.Program) api.Program {
	p.Main = copiedStmts(p.Main)
	p.Funcs = slices.Clone(p.Funcs)
	for i := range p.Funcs {
		p.Funcs[i].Params = slices.Clone(p.Funcs[i].Params)
		p.Funcs[i].Body = copiedStmts(p.Funcs[i].Body)
	}
	return p
}

func copiedStmts(l []api.Stmt) []api.Stmt {
	l = slices.Clone(l)
	for i := range l {
		l[i].L, l[i].Body, l[i].Else = copiedExprs(l[i].L), copiedStmts(l[i].Body), copiedStmts(l[i].Else)
	}
	return l
}

func copiedExprs(l []api.Expr) []api.Expr {
	l = slices.Clone(l)
	for i := range l {
		l[i].L = copiedExprs(l[i].L)
	}
	return l
}

func one() []api.Expr { return []api.Expr{number(1)} }

// wrongExprs are no expressions, by the reasons of chapter 3.
func wrongExprs() []api.Expr {
	a, x := one()[0], ref("x")
	l := []api.Expr{
		{}, {Op: -1}, {Op: 17, L: []api.Expr{a, x}}, {Op: 255}, {Op: -1 << 63}, {Op: 1<<63 - 1},
		number(-1), {Op: api.Const, Name: "x"}, of(api.Const, "", a), ref(""), ref("if"), ref("1"), {Op: api.Var, Name: "x", N: 1}, of(api.Var, "x", a),
		of(api.Clock, "x"), of(api.Clock, "", a), {Op: api.Clock, N: 1}, of(api.Index, "", a), of(api.Index, "x"), of(api.Index, "x", a, a), of(api.Index, "clock", a),
		of(api.Call, ""), of(api.Call, "f", slices.Repeat(one(), 9)...), {Op: api.Call, Name: "f", N: -1},
	}
	for op := api.Neg; op <= api.Or; op++ {
		l = append(l, of(op, ""), of(op, "", a, a, a), of(op, "x", a), of(op, "x", a, a))
		if op > api.Not {
			l = append(l, of(op, "", a))
		}
	}
	return l
}

// wrongStmts are no statements, likewise.
func wrongStmts() []api.Stmt {
	a := one()[0]
	l := []api.Stmt{
		{}, {Op: -1, L: one()}, {Op: 10, L: one()}, {Op: 77}, {Op: 1<<63 - 1, L: one()},
		do(api.Assign, "", a), do(api.Assign, "x"), do(api.Assign, "x", a, a), do(api.Assign, "while", a), do(api.Put, "a", a), do(api.Put, "", a, a), do(api.Put, "a", a, a, a),
		{Op: api.Array, Name: "a"}, {Op: api.Array, Name: "a", N: -1}, {Op: api.Array, Name: "a", N: 4097}, {Op: api.Array, N: 1}, {Op: api.Array, Name: "a", N: 1, L: one()},
		do(api.Input, ""), do(api.Input, "x", a), {Op: api.Input, Name: "x", N: 1}, do(api.If, ""), do(api.If, "x", a), do(api.While, "", a, a), do(api.While, ""),
		{Op: api.While, L: one(), Else: []api.Stmt{do(api.Print, "", a)}}, {Op: api.Print, L: one(), Body: []api.Stmt{do(api.Print, "", a)}}, {Op: api.If, N: 3, L: one()},
	}
	for _, op := range []int{api.Print, api.Keep, api.Return} {
		l = append(l, do(op, ""), do(op, "x", a), do(op, "", a, a), api.Stmt{Op: op, N: 1, L: one()})
	}
	for _, e := range wrongExprs() {
		l = append(l, do(api.Print, "", e), api.Stmt{Op: api.While, L: one(), Body: []api.Stmt{do(api.Put, "a", a, of(api.Neg, "", e))}})
	}
	return l
}

// wrongFuncs are functions that may not be, likewise.
func wrongFuncs() [][]api.Func {
	long := strings.Repeat("a", 33)
	return [][]api.Func{
		slices.Repeat([]api.Func{{Name: "f"}}, 33), {{}}, {{Name: "if"}}, {{Name: long}}, {{Name: "f"}, {Name: "1f"}}, {{Name: "f", Params: []string{"a", ""}}},
		{{Name: "f", Params: names("p", 9)}}, {{Name: "f", Params: []string{"print"}}}, {{Name: "f", Params: []string{long}}},
	}
}

// notResolved are texts of which Resolve tells an error.
func notResolved() map[string]api.Errno {
	l := map[string]api.Errno{
		each(names("v", 65), "input @;"): api.ErrFull, each(names("a", 65), "array @ 1;"): api.ErrFull, "func e() { " + each(names("v", 65), "@ = 1;") + " }": api.ErrFull,
	}
	for _, s := range []string{
		"print nowhere();", "q = q1(1);", "func e() { } print e(1);", "func e(a, b) { print e(a); }", "array q 1; q = 1;", "q[0] = 1;", "while 1 { if 1 { } else { print q[0]; } }",
		"func e() { } func e() { }", "func e(a, b, a) { }", "func e(a) { array a 1; }", "func e() { array q 1; } q[0] = 1;",
	} {
		l[s] = api.ErrName
	}
	return l
}

// deep is a statement of this Depth.
func deep(depth int) api.Stmt {
	e := number(1)
	for range depth - 2 {
		e = of(api.Not, "", e)
	}
	return do(api.Print, "", e)
}

// places are programs in which a statement stands in some place.
func places(s api.Stmt) []api.Program {
	choice := api.Stmt{Op: api.If, L: one(), Else: []api.Stmt{do(api.Keep, "", number(1)), s}}
	return []api.Program{
		first(s), first(do(api.Print, "", number(1)), s, do(api.Print, "", number(2))), first(choice),
		{Funcs: []api.Func{{Name: "f"}, {Name: "g", Body: []api.Stmt{{Op: api.While, L: one(), Body: []api.Stmt{choice}}}}}},
	}
}

// I1: a program that is not right: the error of chapter 3, and no code.
func TestI1NotRight(t *testing.T) {
	for i, s := range wrongStmts() {
		for _, p := range places(s) {
			if tree.Right(p) != api.ErrArg {
				t.Fatalf("statement %d may be", i)
			}
			refuses(t, api.ErrArg, p, "no statement")
			p.Main = append(p.Main, deep(65))
			refuses(t, api.ErrArg, p, "no statement, and too deep")
		}
	}
	for _, l := range wrongFuncs() {
		refuses(t, api.ErrArg, api.Program{Funcs: l}, "no functions")
		refuses(t, api.ErrArg, api.Program{Funcs: l, Main: []api.Stmt{deep(100)}}, "no functions, and too deep")
	}
	for _, depth := range []int{65, 66, 100, 9000} {
		refuses(t, api.ErrDepth, first(deep(depth)), "too deep")
		refuses(t, api.ErrDepth, api.Program{Funcs: []api.Func{{Name: "f"}, {Name: "g", Body: []api.Stmt{deep(depth)}}}}, "too deep")
	}
	l := []api.Stmt{deep(2)}
	for range 62 {
		l = []api.Stmt{{Op: api.While, L: one(), Body: l}}
	}
	isReadBack(t, api.Program{Main: l}) // Depth 64
	refuses(t, api.ErrDepth, api.Program{Main: []api.Stmt{{Op: api.If, L: one(), Else: l}}}, "Depth 65")
}

func mustCompile(t *testing.T, p api.Program) code.Code {
	t.Helper()
	c, err := Compile(p)
	if err != api.OK || len(c.Fns) != len(p.Funcs)+1 {
		t.Fatal(len(c.Fns), err)
	}
	return c
}

// I1: a program that is right, but not resolved: the error of chapter 6.
func TestI1NotResolved(t *testing.T) {
	for s, want := range notResolved() {
		p := program(t, s)
		if _, err := scope.Resolve(p); err != want || tree.Right(p) != api.OK {
			t.Fatalf("%.300q: %v", s, err)
		}
		refusesText(t, want, s)
		refusesText(t, want, "func z(a) { print a; } "+s+" print z(1);")
	}
	refusesText(t, api.ErrName, each(names("v", 65), "input @;")+" print nowhere();")
	refusesText(t, api.ErrName, "func e() { "+each(names("v", 65), "input @;")+" } print e(1);")
}

// I1: a program that is neither: the error of chapter 3 comes first.
func TestI1NeitherRightNorResolved(t *testing.T) {
	for s := range notResolved() {
		for _, w := range []api.Stmt{{}, do(api.Print, ""), do(api.Assign, "x", number(-1)), {Op: api.Array, Name: "q", N: 4097}} {
			p := program(t, s)
			p.Main = append(p.Main, w)
			refuses(t, api.ErrArg, p, s)
			p.Main = append([]api.Stmt{w, deep(65)}, program(t, s).Main...)
			refuses(t, api.ErrArg, p, s+", and too deep")
		}
		p := program(t, s)
		p.Main = append(p.Main, deep(65))
		refuses(t, api.ErrDepth, p, s)
		for _, l := range wrongFuncs() {
			p := program(t, s)
			p.Funcs = append(p.Funcs, l...)
			refuses(t, api.ErrArg, p, s+", and functions that may not be")
		}
	}
}

// owned is a program of all that there is.
const owned = "func f(a, B) { array c 2; c[a] = B; input D; return f(a, c[1]); } func g() { } x = 1; if x + 1 { print clock; } else { keep f(x, 2); } while x < 2 { x = -x; } array m 9; m[g()] = x;"

// I1, R1: the program stays as it was, and is not kept; the code is the caller's.
func TestI1LeavesAsItWas(t *testing.T) {
	p := program(t, owned)
	c := mustCompile(t, p)
	want := told(c)
	if !reflect.DeepEqual(p, program(t, owned)) {
		t.Fatalf("%+v", p)
	}
	overwrite(p)
	if told(c) != want {
		t.Errorf("%s was %s", told(c), want)
	}
	q := program(t, owned)
	c = mustCompile(t, q)
	for i := range c.Fns {
		l := c.Fns[i].L
		for j := range l {
			l[j] = code.Ins{Op: 99, A: 99, N: 99}
		}
		l = l[:cap(l)]
		for j := range l {
			l[j] = code.Ins{Op: 99, A: 99, N: 99}
		}
		c.Fns[i] = code.Fn{Name: "w", Params: 99}
	}
	if !reflect.DeepEqual(q, program(t, owned)) || told(mustCompile(t, q)) != want {
		t.Errorf("%+v", q)
	}
}

// overwrite writes over all that a program has.
func overwrite(p api.Program) {
	for i := range p.Funcs {
		overwriteStmts(p.Funcs[i].Body)
		for j := range p.Funcs[i].Params {
			p.Funcs[i].Params[j] = "w"
		}
		p.Funcs[i] = api.Func{Name: "w"}
	}
	overwriteStmts(p.Main)
}

func overwriteStmts(l []api.Stmt) {
	for i, s := range l {
		overwriteStmts(s.Body)
		overwriteStmts(s.Else)
		overwriteExprs(s.L)
		l[i] = api.Stmt{Op: api.Input, Name: "w"}
	}
}

func overwriteExprs(l []api.Expr) {
	for i, e := range l {
		overwriteExprs(e.L)
		l[i] = ref("w")
	}
}

// I1, R1: no two functions of an answer share any room, nor do two answers.
func TestI1SharesNothing(t *testing.T) {
	p := program(t, owned)
	c, other := mustCompile(t, p), mustCompile(t, p)
	want := told(c)
	for i := range c.Fns {
		_ = append(c.Fns[i].L, slices.Repeat([]code.Ins{{Op: 99, A: 99, N: 99}}, 50)...)
		l := c.Fns[i].L
		for j := range l[len(l):cap(l)] {
			l[len(l):cap(l)][j] = code.Ins{Op: 99}
		}
	}
	if told(c) != want || told(other) != want {
		t.Errorf("%s\n%s was\n%s", told(c), told(other), want)
	}
	c.Fns[1].L[0] = code.Ins{Op: 99}
	if told(other) != want {
		t.Errorf("%s was %s", told(other), want)
	}
}

// I1, R4: the same call has the same answer, whatever was asked in between.
func TestI1SameAgain(t *testing.T) {
	want := told(mustCompile(t, program(t, owned)))
	for s, err := range notResolved() {
		refusesText(t, err, s)
		if got := told(mustCompile(t, program(t, owned))); got != want {
			t.Errorf("%s was %s", got, want)
		}
	}
}
