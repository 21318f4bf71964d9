package tree

import (
	"math/rand"
	"reflect"
	"slices"

	"evenhand/api"
)

func num(n int64) api.Expr { return api.Expr{Op: api.Const, N: n} }

func variable(name string) api.Expr { return api.Expr{Op: api.Var, Name: name} }

func of(op int, l ...api.Expr) api.Expr { return api.Expr{Op: op, L: l} }

func do(op int, l ...api.Expr) api.Stmt { return api.Stmt{Op: op, L: l} }

func first(l ...api.Stmt) api.Program { return api.Program{Main: l} }

// sample is a right program that has each op, and something in each place where
// there may be something; parts that stand beside each other differ.
func sample() api.Program {
	var two []api.Stmt
	for op := api.Add; op <= api.Or; op++ {
		two = append(two, do(api.Print, of(op, num(int64(op)), variable("y"))))
	}
	call := api.Expr{Op: api.Call, Name: "g", L: []api.Expr{num(1), of(api.Clock), of(api.Not, variable("x"))}}
	at := api.Expr{Op: api.Index, Name: "A", L: []api.Expr{of(api.Neg, num(2))}}
	loop := do(api.While, variable("Z"))
	loop.Body = []api.Stmt{
		{Op: api.Put, Name: "A", L: []api.Expr{num(0), call}},
		{Op: api.If, L: []api.Expr{at}, Body: two, Else: []api.Stmt{do(api.Keep, num(4)), do(api.Return, num(5))}},
	}
	p := api.Program{
		Funcs: []api.Func{
			{Name: "f", Params: []string{"a", "B"}, Body: []api.Stmt{do(api.Keep, variable("a")), do(api.Return, variable("B"))}},
			{Name: "g", Params: []string{"c"}, Body: []api.Stmt{loop}},
			{Name: "h"},
		},
		Main: []api.Stmt{
			{Op: api.Array, Name: "A", N: 4096},
			{Op: api.Input, Name: "S"},
			{Op: api.Assign, Name: "x", L: []api.Expr{{Op: api.Call, Name: "h"}}},
			loop,
		},
	}
	return clone(p, true) // the loops are two of their own
}

// clone shares no memory with the program; none says whether a list without
// items becomes nil, else it is empty and has room.
func clone(p api.Program, none bool) api.Program {
	c := api.Program{Main: cloneStmts(p.Main, none), Funcs: list[api.Func](len(p.Funcs), none)}
	for _, f := range p.Funcs {
		params := append(list[string](len(f.Params), none), f.Params...)
		c.Funcs = append(c.Funcs, api.Func{Name: f.Name, Params: params, Body: cloneStmts(f.Body, none)})
	}
	return c
}

func cloneStmts(l []api.Stmt, none bool) []api.Stmt {
	c := list[api.Stmt](len(l), none)
	for _, s := range l {
		s.L, s.Body, s.Else = cloneExprs(s.L, none), cloneStmts(s.Body, none), cloneStmts(s.Else, none)
		c = append(c, s)
	}
	return c
}

func cloneExprs(l []api.Expr, none bool) []api.Expr {
	c := list[api.Expr](len(l), none)
	for _, e := range l {
		e.L = cloneExprs(e.L, none)
		c = append(c, e)
	}
	return c
}

func list[T any](n int, none bool) []T {
	if n == 0 && none {
		return nil
	}
	return make([]T, 0, n+2)
}

// same holds programs against each other apart from the program's own way.
func same(a, b api.Program) bool { return reflect.DeepEqual(clone(a, true), clone(b, true)) }

// reach are all statements and expressions of a program, as they stand in it,
// gone through level by level, and how many levels there are.
func reach(p *api.Program) (stmts []*api.Stmt, exprs []*api.Expr, levels int) {
	var s []*api.Stmt
	for i := range p.Funcs {
		s = append(s, inside(p.Funcs[i].Body)...)
	}
	s = append(s, inside(p.Main)...)
	var e []*api.Expr
	for ; len(s)+len(e) > 0; levels++ {
		stmts, exprs = append(stmts, s...), append(exprs, e...)
		var nextS []*api.Stmt
		var nextE []*api.Expr
		for _, x := range s {
			nextS = append(append(nextS, inside(x.Body)...), inside(x.Else)...)
			nextE = append(nextE, inside(x.L)...)
		}
		for _, x := range e {
			nextE = append(nextE, inside(x.L)...)
		}
		s, e = nextS, nextE
	}
	return stmts, exprs, levels
}

func inside[T any](l []T) (out []*T) {
	for i := range l {
		out = append(out, &l[i])
	}
	return out
}

// some is a program of anything, right or not, drawn with a fixed source.
func some(r *rand.Rand) api.Program {
	p := api.Program{Main: someStmts(r, 4)}
	for range r.Intn(3) {
		p.Funcs = append(p.Funcs, api.Func{Name: someName(r), Params: slices.Repeat([]string{someName(r)}, r.Intn(3)), Body: someStmts(r, 3)})
	}
	return p
}

func someName(r *rand.Rand) string { return []string{"", "x", "Y", "if", "9"}[r.Intn(5)] }

func someStmts(r *rand.Rand, left int) []api.Stmt {
	var l []api.Stmt
	for range r.Intn(min(left, 3) + 1) {
		l = append(l, api.Stmt{Op: r.Intn(11), Name: someName(r), N: r.Int63n(3) - 1, L: someExprs(r, left-1), Body: someStmts(r, left-1), Else: someStmts(r, left-1)})
	}
	return l
}

func someExprs(r *rand.Rand, left int) []api.Expr {
	var l []api.Expr
	for range r.Intn(min(left, 2) + 1) {
		l = append(l, api.Expr{Op: r.Intn(18), Name: someName(r), N: r.Int63n(3) - 1, L: someExprs(r, left-1)})
	}
	return l
}
