package scope

import (
	"fmt"
	"slices"
	"strings"
	"testing"

	"evenhand/api"
	"evenhand/tree"
)

// everywhere asks that a text is refused, wherever it is the only one that is
// wrong: in each block in the place of @; funcs stands ahead of it.
func everywhere(t *testing.T, want api.Errno, funcs, s string) {
	t.Helper()
	for _, block := range []string{
		"@", "print 1; @ print 2;", "if 1 { @ }", "if 1 { } else { @ }", "while 1 { while 2 { if 3 { } else { if 4 { @ } } } }",
		"func k() { @ }", "func k() { } func l(z) { @ } func m() { } print l(1);", "func k(z) { if z { } else { while z { @ } } } y2 = 1;",
	} {
		refuses(t, want, funcs+strings.Replace(block, "@", s, 1))
	}
}

// F1: two functions of one Name, and two Params of one function the same.
func TestF1TwoOfOneName(t *testing.T) {
	for _, s := range []string{
		"func f() { } func f() { }", "func f(a) { } func f() { }", "func f() { } func g() { } func f(a, b) { x = 1; } y = 1;", "func g() { } func F() { } func h() { } func F() { }",
		"func f(a, a) { }", "func f(a, b, a) { }", "func f(B, a, a) { return a; }", "func g() { } func f(a, b, c, d, e, f, g, a) { }", "func f(a, b, c, d, e, f, g, g) { } func g() { }", "func f(x, x, x) { x = 1; } x = 1;",
	} {
		refuses(t, api.ErrName, s)
	}
	resolves(t, "func f(a, A) { } func F(A, a) { }", "/0: ;  | f/2: a A;  | F/2: A a; ")
	l := names("f", 32)
	for _, i := range []int{0, 1, 15, 30} {
		m := slices.Clone(l)
		m[i] = "f31"
		refuses(t, api.ErrName, each(m, "func @() { }"))
	}
}

// F1: a Call of a Name that no function has, or of another number of parts.
func TestF1WrongCalls(t *testing.T) {
	funcs := "func f() { } func g(a) { } func h(a, b, c, d, e, f, g, h) { } "
	for _, e := range []string{
		"x()", "F()", "ff()", "e(1)", "z(1, 2, 3, 4, 5, 6, 7, 8)", "f(1)", "f(1, 2)", "g()", "g(1, 2)", "h()", "h(1, 2, 3, 4, 5, 6, 7)",
		"f() + f(1)", "g(g())", "g(f(2))", "g(x(1))", "-!g(1, 1)", "h(1, 2, 3, 4, 5, 6, 7, g())", "b[g()]", "(1 | (2 * f(f())))",
	} {
		for _, s := range []string{"x = @;", "b[@] = 1; array b 1;", "b[1] = @; array b 1;", "print @;", "keep @;", "return @;", "if @ { }", "while @ { }"} {
			if strings.Contains(e, "b[") {
				s += " array b 1;"
			}
			everywhere(t, api.ErrName, funcs, strings.Replace(s, "@", e, 1))
		}
	}
	refuses(t, api.ErrName, "f = f();")
	refuses(t, api.ErrName, "array f 1; f[0] = f();")
	refuses(t, api.ErrName, "func f(g) { return g(); }")
	refuses(t, api.ErrName, "func f(a, b) { return f(a); }")
	refuses(t, api.ErrName, "func f() { return g(1); } func g() { }")
}

// F1: a name that is a variable and an array of one function.
func TestF1VariableAndArray(t *testing.T) {
	variable := []string{"a = 1;", "input a;", "print a;", "x = -a + 1;", "print b[a];", "b[0] = a;", "if a { }", "while 1 { if 2 { } else { keep a; } }", "print f(1, a);"}
	array := []string{"array a 1;", "a[0] = 1; array a 1;", "print a[0]; array a 1;", "array a 1; print b[a[1]];", "while a[0] { array a 2; }", "if 1 { array a 1; } else { }"}
	for _, v := range variable {
		for _, a := range array {
			everywhere(t, api.ErrName, "func f(x, y) { } ", "array b 1; "+v+" "+a)
			everywhere(t, api.ErrName, "func f(x, y) { } ", a+" array b 1; "+v)
		}
	}
	for _, s := range append(array, "a[0] = 1;", "print a[0];") {
		refuses(t, api.ErrName, "func f(a) { "+s+" }")
		refuses(t, api.ErrName, "func f(x, y, z, a) { while x { "+s+" } } array a 1;")
	}
	refuses(t, api.ErrName, "array a 1; a[a] = 1;")
	refuses(t, api.ErrName, "array a 1; a = a[0];")
}

// F1: an array without an Array in its own function.
func TestF1NoArray(t *testing.T) {
	for _, s := range []string{
		"a[0] = 1;", "print a[0];", "x = a[0];", "array b 1; b[a[0]] = 1;", "array b 1; b[0] = a[b[0]];", "print 1 + -a[x];", "while a[0] { }", "if 1 { a[1] = 1; }", "array A 1; a[0] = 1;", "array b 1; array c 1; print b[c[a[0]]];",
		"array aa 1; print a[0];", "print a[1]; print a[0];",
	} {
		everywhere(t, api.ErrName, "", s)
		everywhere(t, api.ErrName, "func f() { array a 1; } func g(a) { } func a() { } ", s)
	}
	refuses(t, api.ErrName, "func f() { a[0] = 1; } array a 1;")
	refuses(t, api.ErrName, "func f() { print a[0]; } func g() { array a 1; } array a 1;")
	refuses(t, api.ErrName, "func f() { array a 1; } a[0] = 1;")
	refuses(t, api.ErrName, "func a() { } print a[0];")
}

// F1: one more variable, or array, than may be; parameters count, and names that
// come more than once count once.
func TestF1OneMore(t *testing.T) {
	for _, s := range []string{"@ = 1;", "input @;", "print @;", "if 1 { print -@; }", "while @ { }", "array @ 1;", "if 1 { } else { array @ 1; @[0] = @[1]; }", "print @[0]; array @ 2;"} {
		all := each(names("n", 65), s)
		most := each(names("n", 64), s)
		if l, err := Resolve(program(t, most+" "+most)); err != api.OK || len(l) != 1 || len(l[0].Vars)+len(l[0].Arrays) != 64 {
			t.Errorf("%q: %d, %v", s, len(l), err)
		}
		refuses(t, api.ErrFull, all)
		refuses(t, api.ErrFull, "func f() { "+all+" } x = 1;")
		refuses(t, api.ErrFull, "func e() { "+most+" } func f(x) { "+all+" } func g() { }"+most)
		refuses(t, api.ErrFull, "func e() { "+most+" } "+all)
		refuses(t, api.ErrFull, "func e() { "+all+" } "+all)
	}
	v := names("v", 100)
	for n := range 9 {
		params := "func f(" + strings.Join(v[:n], ", ") + ") { "
		if l, err := Resolve(program(t, params+each(v[n:64], "@ = 1;")+" }")); err != api.OK || len(l) != 2 || !slices.Equal(l[1].Vars, v[:64]) {
			t.Errorf("%d: %q, %v", n, told(l), err)
		}
		refuses(t, api.ErrFull, params+each(v[n:65], "@ = 1;")+" }")
		refuses(t, api.ErrFull, params+each(v[n:], "print @;")+" }")
	}
	refuses(t, api.ErrFull, each(v, "x = @;"))
	refuses(t, api.ErrFull, each(v, "array @ 1;"))
	refuses(t, api.ErrFull, each(names("v", 65), "input @;")+each(names("a", 65), "array @ 1;"))
}

// notRight are programs that are not right, by each reason of chapter 3, and
// what is told of them.
func notRight() map[string]api.Program {
	first := func(s api.Stmt) api.Program { return api.Program{Main: []api.Stmt{s}} }
	out := map[string]api.Program{
		"33 functions": {Funcs: slices.Repeat([]api.Func{{Name: "f"}}, 33)},
		"no name":      {Funcs: []api.Func{{}}}, "keyword": {Funcs: []api.Func{{Name: "if"}}}, "long name": {Funcs: []api.Func{{Name: strings.Repeat("a", 33)}}},
		"nine Params": {Funcs: []api.Func{{Name: "f", Params: strings.Fields("a b c d e f g h i")}}}, "wrong Param": {Funcs: []api.Func{{Name: "f", Params: []string{"a", "1"}}}},
		"empty Params": {Funcs: []api.Func{{Name: "f", Params: []string{"", ""}}}},
	}
	two := append(one(), one()...)
	for what, e := range map[string]api.Expr{
		"zero": {}, "op -1": {Op: -1}, "op 17": {Op: 17, L: two}, "Const -1": {Op: api.Const, N: -1}, "Const with name": {Op: api.Const, Name: "x"}, "Const with part": {Op: api.Const, L: one()},
		"Var of no name": {Op: api.Var}, "Var with number": {Op: api.Var, Name: "x", N: 1}, "Var with part": {Op: api.Var, Name: "x", L: one()}, "Clock with name": {Op: api.Clock, Name: "x"},
		"Index of no name": {Op: api.Index, L: one()}, "Index of none": {Op: api.Index, Name: "x"}, "Index of two": {Op: api.Index, Name: "x", L: two},
		"Call of no name": {Op: api.Call}, "Call of nine": {Op: api.Call, Name: "f", L: slices.Repeat(one(), 9)}, "Neg of two": {Op: api.Neg, L: two}, "Not of none": {Op: api.Not}, "Add of one": {Op: api.Add, L: one()}, "Or of three": {Op: api.Or, L: slices.Repeat(one(), 3)}, "Sub with name": {Op: api.Sub, Name: "x", L: two},
	} {
		out[what] = first(api.Stmt{Op: api.Print, L: []api.Expr{e}})
		out[what+" inside"] = first(api.Stmt{Op: api.While, L: one(), Body: []api.Stmt{{Op: api.Put, Name: "a", L: []api.Expr{one()[0], {Op: api.Neg, L: []api.Expr{e}}}}}})
	}
	for what, s := range map[string]api.Stmt{
		"zero": {}, "op -1": {Op: -1, L: one()}, "op 10": {Op: 10, L: one()}, "Assign of no name": {Op: api.Assign, L: one()}, "Assign of none": {Op: api.Assign, Name: "x"}, "Assign of two": {Op: api.Assign, Name: "x", L: two},
		"Put of one": {Op: api.Put, Name: "a", L: one()}, "Put of no name": {Op: api.Put, L: two}, "Array of 0": {Op: api.Array, Name: "a"}, "Array of 4097": {Op: api.Array, Name: "a", N: 4097}, "Array of -1": {Op: api.Array, Name: "a", N: -1}, "Array of no name": {Op: api.Array, N: 1},
		"Input of no name": {Op: api.Input}, "Input with part": {Op: api.Input, Name: "x", L: one()}, "Print of none": {Op: api.Print}, "Keep with name": {Op: api.Keep, Name: "x", L: one()}, "Return with Body": {Op: api.Return, L: one(), Body: []api.Stmt{{Op: api.Print, L: one()}}},
		"If of none": {Op: api.If}, "While with Else": {Op: api.While, L: one(), Else: []api.Stmt{{Op: api.Print, L: one()}}}, "While with number": {Op: api.While, N: 1, L: one()},
	} {
		out["statement "+what] = first(s)
		out["statement "+what+" inside"] = api.Program{Funcs: []api.Func{{Name: "f"}, {Name: "g", Body: []api.Stmt{{Op: api.If, L: one(), Else: []api.Stmt{s}}}}}}
	}
	return out
}

// tooDeep is a program of this Depth, or one in a function.
func tooDeep(depth int, inFunc bool) api.Program {
	e := one()
	for range depth - 2 {
		e = []api.Expr{{Op: api.Neg, L: e}}
	}
	s := []api.Stmt{{Op: api.Print, L: e}}
	if inFunc {
		return api.Program{Funcs: []api.Func{{Name: "f", Body: s}}}
	}
	return api.Program{Main: s}
}

// F1: Right's error, by each reason.
func TestF1NotRight(t *testing.T) {
	for what, p := range notRight() {
		refusesProgram(t, api.ErrArg, p, what)
	}
	for _, inFunc := range []bool{false, true} {
		refusesProgram(t, api.ErrDepth, tooDeep(65, inFunc), "Depth 65")
		refusesProgram(t, api.ErrDepth, tooDeep(10000, inFunc), "Depth 10000")
		if l, err := Resolve(tooDeep(64, inFunc)); err != api.OK || len(l) == 0 {
			t.Errorf("Depth 64: %q, %v", told(l), err)
		}
	}
	l := []api.Stmt{{Op: api.Print, L: one()}}
	for range 63 {
		l = []api.Stmt{{Op: api.If, L: one(), Else: l}}
	}
	refusesProgram(t, api.ErrDepth, api.Program{Main: l}, "statements of Depth 65")
}

// F1: of several errors the first that applies: Right's, ErrName, ErrFull,
// wherever each of them stands.
func TestF1FirstThatApplies(t *testing.T) {
	full := []string{each(names("v", 65), "input @;"), each(names("a", 65), "array @ 1;")}
	wrong := []string{"print nowhere();", "q = f0(1);", "array q 1; q = 1;", "q[0] = 1;", "print q[0];"}
	for _, f := range full {
		for _, w := range wrong {
			for i, s := range []string{
				f + w, w + f, "func f0() { " + f + " } " + w, "func f0() { " + w + " } " + f, "func f0() { " + f + " } func g() { " + w + " }", "func f0() { " + w + " } func g(a) { } func h() { " + f + " }", "while 1 { " + f + "} func_ = 1; if 1 { } else { " + w + " }",
			} {
				p := program(t, s)
				refusesProgram(t, api.ErrName, p, s)
				for what, x := range notRight() {
					if len(x.Main) > 0 {
						x.Funcs, x.Main = p.Funcs, slices.Concat(p.Main, x.Main)
						refusesProgram(t, api.ErrArg, x, fmt.Sprint(i, what))
						x.Main = slices.Concat(tooDeep(65, false).Main, x.Main)
						refusesProgram(t, api.ErrArg, x, fmt.Sprint(i, what, ", too deep"))
					}
				}
				p.Main = append(p.Main, tooDeep(65, false).Main...)
				refusesProgram(t, api.ErrDepth, p, fmt.Sprint(i, ", too deep"))
			}
		}
		refuses(t, api.ErrName, "func f() { } func f() { } "+f)
		refuses(t, api.ErrName, "func f() { "+f+" } func f() { }")
		refuses(t, api.ErrName, "func f(a, a) { } "+f)
		refuses(t, api.ErrName, "func g() { } func f(b, c, b) { "+f+" }")
		p := program(t, "func f() { } func f() { } "+f)
		p.Main = append(p.Main, tooDeep(65, false).Main...)
		refusesProgram(t, api.ErrDepth, p, "two functions, full and too deep")
		p.Funcs[1].Params = []string{"while"}
		refusesProgram(t, api.ErrArg, p, "two functions, full, too deep, and a wrong Param")
	}
	for what, p := range notRight() {
		p.Main = append(slices.Clip(p.Main), tooDeep(65, false).Main...)
		if want := tree.Right(p); want != api.ErrArg {
			t.Errorf("%s: %v", what, want)
		}
		refusesProgram(t, api.ErrArg, p, what+", too deep")
	}
}
