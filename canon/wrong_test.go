package canon

import (
	"fmt"
	"math"
	"slices"
	"strings"
	"testing"

	"evenhand/api"
)

// wrongExprs are expressions that could not stand in a right program, by what
// is wrong with them.
func wrongExprs() map[string]api.Expr {
	one := num(1)
	out := map[string]api.Expr{
		"zero": {}, "op -1": of(-1), "op 17": of(17, one, one), "op 264": of(256+8, one, one), "least op": of(math.MinInt), "greatest op": of(math.MaxInt, one),
		"Const -1": num(-1), "Const least": num(math.MinInt64), "Const with name": {Op: api.Const, Name: "x"}, "Const with part": of(api.Const, one),
		"Var with part": named(api.Var, "x", one), "Var with number": {Op: api.Var, Name: "x", N: 1}, "Var with number below 0": {Op: api.Var, Name: "x", N: -1},
		"Clock with name": named(api.Clock, "clock"), "Clock with number": {Op: api.Clock, N: 1}, "Clock with part": of(api.Clock, one),
		"Index with none": named(api.Index, "x"), "Index with two": named(api.Index, "x", one, one), "Index with number": {Op: api.Index, Name: "x", N: 1, L: []api.Expr{one}},
		"Call with nine": named(api.Call, "f", slices.Repeat([]api.Expr{one}, 9)...), "Call with number": {Op: api.Call, Name: "f", N: 1},
	}
	for _, name := range []string{"", "if", "clock", "_x", "9", "x y", "x;", "x\n", "\u00e4", "x\x00", name32 + "x"} {
		out["Var "+name] = named(api.Var, name)
		out["Index "+name] = named(api.Index, name, one)
		out["Call "+name] = named(api.Call, name, one)
	}
	for op := api.Neg; op <= api.Or; op++ {
		for n := range 5 {
			e := of(op, slices.Repeat([]api.Expr{one}, n)...)
			if n != 2 && op >= api.Add || n != 1 && op < api.Add {
				out[fmt.Sprint("op ", op, " of ", n)] = e
				continue
			}
			e.N = 1
			out[fmt.Sprint("op ", op, " with number")] = e
			e.N, e.Name = 0, "x"
			out[fmt.Sprint("op ", op, " with name")] = e
		}
	}
	return out
}

// E1: nothing is told of an expression that could not stand in a right program,
// nor of one that has it as a part, nor of a program that has it, anywhere.
func TestE1WrongExpressions(t *testing.T) {
	one := num(1)
	for what, e := range wrongExprs() {
		for i, x := range []api.Expr{
			e, of(api.Neg, e), of(api.Not, of(api.Not, e)), of(api.Add, e, one), of(api.Or, one, e), named(api.Index, "x", e),
			named(api.Call, "f", e), named(api.Call, "f", one, one, one, one, one, one, one, e), of(api.Mul, one, named(api.Call, "f", of(api.Less, of(api.Neg, e), one), one)),
		} {
			if got := Expr(x); got != "" {
				t.Errorf("%s, %d: %q", what, i, got)
			}
			nothing(t, what, first(do(api.Print, x)))
		}
		for _, s := range []api.Stmt{
			to(api.Assign, "x", e), to(api.Put, "x", e, one), to(api.Put, "x", one, e), do(api.Keep, e), do(api.Return, e), do(api.If, e), do(api.While, e),
		} {
			nowhere(t, what, s)
		}
	}
}

// nowhere asks that nothing is told of a program that has this statement,
// wherever it is the only one that is wrong.
func nowhere(t *testing.T, what string, s api.Stmt) {
	t.Helper()
	one, ok := num(1), []api.Stmt{do(api.Print, num(1))}
	l := []api.Stmt{ok[0], s, ok[0]}
	for i, p := range []api.Program{
		first(s), first(l...), inFunc(s), inFunc(l...),
		{Funcs: []api.Func{{Name: "f", Body: ok}, {Name: "g", Body: l}, {Name: "h"}}, Main: ok},
		first(block(api.If, one, l, nil)), first(block(api.If, one, l, ok)), first(block(api.If, one, nil, l)), first(block(api.If, one, ok, l)), first(block(api.While, one, l, nil)),
		first(ok[0], block(api.While, one, []api.Stmt{block(api.If, one, ok, []api.Stmt{block(api.If, one, l, nil)})}, nil), ok[0]),
		inFunc(block(api.If, one, nil, []api.Stmt{block(api.While, one, []api.Stmt{s}, nil)})),
	} {
		nothing(t, fmt.Sprint(what, ", place ", i), p)
	}
}

// E1: nothing is told where a statement may not be, whatever is wrong with it.
func TestE1WrongStatements(t *testing.T) {
	one, l := []api.Expr{num(1)}, []api.Stmt{do(api.Print, num(1))}
	wrong := map[string]api.Stmt{
		"zero": {}, "op -1": {Op: -1, L: one}, "op 10": {Op: 10, L: one}, "op 261": {Op: 256 + 5, L: one}, "least op": {Op: math.MinInt}, "greatest op": {Op: math.MaxInt, L: one},
		"Array of none": {Op: api.Array, Name: "x"}, "Array of -1": {Op: api.Array, Name: "x", N: -1}, "Array of 4097": {Op: api.Array, Name: "x", N: 4097},
		"Array of many": {Op: api.Array, Name: "x", N: 1<<32 + 1}, "While with Else": {Op: api.While, L: one, Body: l, Else: l}, "Input -1": {Op: api.Input, Name: "x", N: -1},
	}
	parts := []int{1: 1, 2: 2, 5: 1, 6: 1, 7: 1, 8: 1, 9: 1}
	for op := api.Assign; op <= api.Return; op++ {
		right := api.Stmt{Op: op, L: slices.Repeat(one, parts[op])}
		if op <= api.Input {
			right.Name = "x"
		}
		if op == api.Array {
			right.N = 1
		}
		if Text(first(right)) == "" {
			t.Fatalf("%+v is to be right", right)
		}
		add := func(what string, change func(s *api.Stmt)) {
			s := right
			change(&s)
			wrong[fmt.Sprint("op ", op, " ", what)] = s
		}
		for n := range 4 {
			if n != parts[op] {
				add(fmt.Sprint("with parts ", n), func(s *api.Stmt) { s.L = slices.Repeat(one, n) })
			}
		}
		for _, name := range []string{"", "while", "_", "1x", "x ", "x = 1; y", name32 + "x"} {
			if op <= api.Input {
				add("named "+name, func(s *api.Stmt) { s.Name = name })
			}
		}
		if op > api.Input {
			add("with name", func(s *api.Stmt) { s.Name = "x" })
		}
		if op != api.Array {
			add("with number", func(s *api.Stmt) { s.N = 1 })
		}
		if op != api.If && op != api.While {
			add("with Body", func(s *api.Stmt) { s.Body = l })
			add("with Else", func(s *api.Stmt) { s.Else = l })
		}
	}
	for what, s := range wrong {
		nowhere(t, what, s)
	}
}

// E1: nothing is told of a program with a wrong function, or too many.
func TestE1WrongFunctions(t *testing.T) {
	ok := api.Func{Name: "f", Params: []string{"a"}, Body: []api.Stmt{do(api.Return, ref("a"))}}
	main := []api.Stmt{do(api.Print, num(1))}
	nothing(t, "33 functions", api.Program{Funcs: slices.Repeat([]api.Func{ok}, 33), Main: main})
	nothing(t, "33 functions of nothing", api.Program{Funcs: slices.Repeat([]api.Func{{Name: "f"}}, 33)})
	wrong := map[string]api.Func{
		"zero": {}, "nine parameters": {Name: "f", Params: strings.Fields("a b c d e f g h i")}, "many": {Name: "f", Params: slices.Repeat([]string{"a"}, 100)},
		"last": {Name: "f", Params: []string{"a", "b", "c", "d", "e", "f", "g", "1"}},
	}
	for _, name := range []string{"", "func", "return", "_f", "9", "f(", "a, b", "f ", name32 + "x"} {
		wrong["named "+name] = api.Func{Name: name, Body: ok.Body}
		wrong["parameter "+name] = api.Func{Name: "f", Params: []string{name}}
		wrong["second parameter "+name] = api.Func{Name: "f", Params: []string{"a", name, "b"}, Body: ok.Body}
	}
	for what, f := range wrong {
		for _, l := range [][]api.Func{{f}, {f, ok}, {ok, f}, {ok, f, ok}} {
			nothing(t, what, api.Program{Funcs: l})
			nothing(t, what, api.Program{Funcs: l, Main: main})
		}
	}
}

// E1: what is too deep in one place alone, or wrong and too deep.
func TestE1TooDeepSomewhere(t *testing.T) {
	for _, by := range ways() {
		s, _ := deep(by, 65)
		nowhere(t, by, s)
		s, _ = deep(by, 64)
		one := num(1)
		nothing(t, by, first(block(api.If, one, []api.Stmt{s}, nil)))
		nothing(t, by, first(block(api.If, one, nil, []api.Stmt{s})))
		nothing(t, by, inFunc(block(api.While, one, []api.Stmt{s}, nil)))
		if len(s.L) == 1 && len(s.Body)+len(s.Else) == 0 {
			nothing(t, by, first(do(api.Keep, of(api.Neg, s.L[0]))))
			nothing(t, by, first(to(api.Put, "x", of(api.And, one, s.L[0]), one)))
		}
		s, _ = deep(by, 100)
		s.N = 1
		nowhere(t, by, s)
	}
}
