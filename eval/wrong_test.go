package eval

import (
	"reflect"
	"slices"
	"strings"
	"testing"

	"evenhand/api"
	"evenhand/scope"
	"evenhand/tree"
)

// refuses asks that of a program just this error is told, whatever it is handed, and
// that it stays as it was.
func refuses(t *testing.T, want api.Errno, p api.Program, what string) {
	t.Helper()
	before := copied(p)
	for _, a := range []asked{enough(), {}, {fuel: -1, quota: -1}, {fuel: most, quota: most, oracle: []int64{1, 2}, given: true}} {
		if out := a.of(p); !reflect.DeepEqual(out, api.Outcome{Err: want}) {
			t.Errorf("%.300s: %s, want %v", what, told(out), want)
		}
	}
	if !reflect.DeepEqual(p, before) {
		t.Errorf("%.300s: is not as it was", what)
	}
}

// copied is a program that shares nothing with another one.
func copied(p api.Program) api.Program {
	p.Main = copiedStmts(p.Main)
	p.Funcs = slices.Clone(p.Funcs)
	for i := range p.Funcs {
		p.Funcs[i].Params = slices.Clone(p.Funcs[i].Params)
		p.Funcs[i].Body = copiedStmts(p.Funcs[i].Body)
	}
	return p
}

func copiedStmts(l []api.Stmt) []api.Stmt {
	l = slices.Clone(l)
	for i := range l {
		l[i].L, l[i].Body, l[i].Else = copiedExprs(l[i].L), copiedStmts(l[i].Body), copiedStmts(l[i].Else)
	}
	return l
}

func copiedExprs(l []api.Expr) []api.Expr {
	l = slices.Clone(l)
	for i := range l {
		l[i].L = copiedExprs(l[i].L)
	}
	return l
}

func one() []api.Expr { return []api.Expr{number(1)} }

// wrongExprs are no expressions, by the reasons of chapter 3.
func wrongExprs() []api.Expr {
	a, x := one()[0], ref("x")
	l := []api.Expr{
		{}, {Op: -1}, {Op: 17, L: []api.Expr{a, x}}, {Op: 255}, {Op: least}, {Op: most},
		number(-1), {Op: api.Const, Name: "x"}, of(api.Const, "", a), ref(""), ref("if"), ref("1"), {Op: api.Var, Name: "x", N: 1}, of(api.Var, "x", a),
		of(api.Clock, "x"), of(api.Clock, "", a), {Op: api.Clock, N: 1}, of(api.Index, "", a), of(api.Index, "x"), of(api.Index, "x", a, a), of(api.Index, "clock", a),
		of(api.Call, ""), of(api.Call, "f", slices.Repeat(one(), 9)...), of(api.Call, "f", slices.Repeat(one(), 1000)...), {Op: api.Call, Name: "f", N: -1},
	}
	for op := api.Neg; op <= api.Or; op++ {
		l = append(l, of(op, ""), of(op, "", a, a, a), of(op, "x", a), of(op, "x", a, a))
		if op > api.Not {
			l = append(l, of(op, "", a))
		}
	}
	return l
}

// wrongStmts are no statements, likewise.
func wrongStmts() []api.Stmt {
	a := one()[0]
	l := []api.Stmt{
		{}, {Op: -1, L: one()}, {Op: 10, L: one()}, {Op: 77}, {Op: most, L: one()},
		do(api.Assign, "", a), do(api.Assign, "x"), do(api.Assign, "x", a, a), do(api.Assign, "while", a), do(api.Put, "a", a), do(api.Put, "", a, a), do(api.Put, "a", a, a, a),
		{Op: api.Array, Name: "a"}, {Op: api.Array, Name: "a", N: -1}, {Op: api.Array, Name: "a", N: 4097}, {Op: api.Array, N: 1}, {Op: api.Array, Name: "a", N: 1, L: one()},
		do(api.Input, ""), do(api.Input, "x", a), {Op: api.Input, Name: "x", N: 1}, do(api.If, ""), do(api.If, "x", a), do(api.While, "", a, a), do(api.While, ""),
		{Op: api.While, L: one(), Else: []api.Stmt{do(api.Print, "", a)}}, {Op: api.Print, L: one(), Body: []api.Stmt{do(api.Print, "", a)}}, {Op: api.If, N: 3, L: one()},
	}
	for _, op := range []int{api.Print, api.Keep, api.Return} {
		l = append(l, do(op, ""), do(op, "x", a), do(op, "", a, a), api.Stmt{Op: op, N: 1, L: one()})
	}
	for _, e := range wrongExprs() {
		l = append(l, do(api.Print, "", e), api.Stmt{Op: api.While, L: one(), Body: []api.Stmt{do(api.Put, "a", a, of(api.Neg, "", e))}})
	}
	return l
}

// places are programs in which a statement stands somewhere, also where it would
// never be done, or late.
func places(s api.Stmt) []api.Program {
	p := do(api.Print, "", number(1))
	choice := api.Stmt{Op: api.If, L: one(), Else: []api.Stmt{p, s}}
	return []api.Program{
		first(s), first(p, s, p), first(p, choice), first(do(api.Return, "", number(1)), s),
		{Funcs: []api.Func{{Name: "f"}, {Name: "g", Body: []api.Stmt{{Op: api.While, L: one(), Body: []api.Stmt{choice}}}}}, Main: []api.Stmt{p}},
	}
}

// deep is a statement of this Depth.
func deep(depth int) api.Stmt {
	e := number(1)
	for range depth - 2 {
		e = of(api.Not, "", e)
	}
	return do(api.Print, "", e)
}

// M1, R2: of a program that is not right: just the error of chapter 3.
func TestM1NotRight(t *testing.T) {
	for i, s := range wrongStmts() {
		for _, p := range places(s) {
			if tree.Right(p) != api.ErrArg {
				t.Fatalf("statement %d may be", i)
			}
			refuses(t, api.ErrArg, p, "no statement")
		}
	}
	long := strings.Repeat("a", 33)
	for _, l := range [][]api.Func{
		slices.Repeat([]api.Func{{Name: "f"}}, 33), {{}}, {{Name: "if"}}, {{Name: long}}, {{Name: "f"}, {Name: "1f"}}, {{Name: "f", Params: []string{"a", ""}}},
		{{Name: "f", Params: names("p", 9)}}, {{Name: "f", Params: []string{"print"}}}, {{Name: "f", Params: []string{long}}},
	} {
		refuses(t, api.ErrArg, api.Program{Funcs: l, Main: []api.Stmt{do(api.Print, "", number(1))}}, "no functions")
	}
	for _, depth := range []int{65, 66, 100, 9000} {
		for _, p := range places(deep(depth)) {
			refuses(t, api.ErrDepth, p, "too deep")
		}
	}
	if out := enough().of(first(deep(64))); told(out) != "{[1] [] [] 71 0 error 0}" { // 1, 62 times Not, 5, 3
		t.Error(told(out))
	}
}

// M1, R2: of a program that is right, but not resolved: just the error of chapter 6,
// also where what is wrong would never be done.
func TestM1NotResolved(t *testing.T) {
	l := map[string]api.Errno{
		each(names("v", 65), "input @;"): api.ErrFull, each(names("a", 65), "array @ 1;"): api.ErrFull, "func e() { " + each(names("v", 65), "@ = 1;") + " }": api.ErrFull,
	}
	for _, s := range []string{
		"print nowhere();", "q = q1(1);", "func e() { } print e(1);", "func e(a, b) { print e(a); }", "array q 1; q = 1;", "q[0] = 1;", "while 1 { if 1 { } else { print q[0]; } }",
		"func e() { } func e() { }", "func e(a, b, a) { }", "func e(a) { array a 1; }", "func e() { array q 1; } q[0] = 1;", "return 1; print nowhere();", "if 0 { print nowhere(); }",
	} {
		l[s] = api.ErrName
	}
	for s, want := range l {
		p := program(t, s)
		if _, err := scope.Resolve(p); err != want {
			t.Fatalf("%.300q: %v", s, err)
		}
		refuses(t, want, p, s)
		refuses(t, want, program(t, "func z(a) { print a; } "+s+" print z(1);"), s)
	}
}

// owned is a text in which all is done that may be.
const owned = "func f(a, B) { array c 2; c[a] = B; input D; keep D; return c[1]; } func g() { } input x; input x; input Y; keep Y; if x + 1 { print clock; } else { keep f(x, 2); } while x < 9 { x = x + 1; print f(1, x); keep clock; } array m 9; m[g()] = x; print m[0]; return clock;"

// overwrite writes over all that a program has.
func overwrite(p api.Program) {
	for i := range p.Funcs {
		overwriteStmts(p.Funcs[i].Body)
		for j := range p.Funcs[i].Params {
			p.Funcs[i].Params[j] = "w"
		}
		p.Funcs[i] = api.Func{Name: "w"}
	}
	overwriteStmts(p.Main)
}

func overwriteStmts(l []api.Stmt) {
	for i, s := range l {
		overwriteStmts(s.Body)
		overwriteStmts(s.Else)
		for j := range s.L {
			s.L[j] = ref("w")
		}
		l[i] = api.Stmt{Op: api.Input, Name: "w"}
	}
}

// room is a list out of a greater one, with numbers of another behind it.
func room(l ...int64) []int64 {
	return append(slices.Clone(l), 91, 92, 93)[:len(l)]
}

// M1, R1: what is handed in stays as it was, also behind its end, and is not kept.
func TestM1LeavesAsItWas(t *testing.T) {
	for _, given := range []bool{false, true} {
		p := program(t, owned)
		a := enough()
		a.public, a.secret, a.oracle, a.given = room(3, 5), room(8, 13), room(70, 71), given
		out := a.of(p)
		want := told(out)
		if out.Err != api.OK || len(out.Prints) < 4 || len(out.Keeps) < 4 || len(out.Clocks) < 4 {
			t.Fatal(want)
		}
		if !reflect.DeepEqual(p, program(t, owned)) {
			t.Errorf("%+v", p)
		}
		for l, want := range map[*[]int64][]int64{&a.public: {3, 5, 91, 92, 93}, &a.secret: {8, 13, 91, 92, 93}, &a.oracle: {70, 71, 91, 92, 93}} {
			if !slices.Equal((*l)[:5], want) || len(*l) != 2 {
				t.Errorf("%v, want %v", (*l)[:5], want)
			}
			clear((*l)[:5])
		}
		overwrite(p)
		if told(out) != want {
			t.Errorf("%s was %s", told(out), want)
		}
	}
}

// M1, R1: an answer is the caller's: no two lists of it share any room, nor do two
// answers, nor an answer and what was handed in.
func TestM1SharesNothing(t *testing.T) {
	p := program(t, owned)
	a := enough()
	a.oracle, a.given = []int64{70, 71, 72, 73, 74, 75}, true
	out, other := a.of(p), a.of(p)
	want := told(other)
	for _, l := range []*[]int64{&out.Prints, &out.Keeps, &out.Clocks} {
		was := slices.Clone(*l)
		clear((*l)[:cap(*l)])
		*l = was
		if told(out) != want || told(other) != want {
			t.Errorf("%s, %s, want %s", told(out), told(other), want)
		}
	}
	if !slices.Equal(a.oracle, []int64{70, 71, 72, 73, 74, 75}) || !slices.Equal(a.public, enough().public) || !slices.Equal(a.secret, enough().secret) || !reflect.DeepEqual(p, program(t, owned)) {
		t.Error(a, p)
	}
	if got := told(a.of(p)); got != want {
		t.Errorf("%s, want %s", got, want)
	}
}

// M1, R3, R4: the same call has the same answer, whatever was asked in between.
func TestM1SameAgain(t *testing.T) {
	p := program(t, owned)
	want := told(enough().of(p))
	for _, s := range []string{"print nowhere();", "x = 1 / 0;", "while 1 { array a 9; }", "while 1 { input x; input Y; x = clock; }", "func f() { x = f(); } x = f();", "return 5;"} {
		enough().of(program(t, s))
		if got := told(enough().of(p)); got != want {
			t.Errorf("%s was %s", got, want)
		}
	}
}
