package label

import (
	"fmt"
	"slices"
	"strings"
	"testing"

	"evenhand/api"
)

// asks tells whether the part at this place of a statement must be public.
func asks(op int, name, function string, at int) bool {
	switch op {
	case api.Assign:
		return at == 0 && !great(name)
	case api.Put:
		return at == 0 || at == 1 && !great(name)
	case api.Print, api.If, api.While:
		return at == 0
	case api.Return:
		return at == 0 && !great(function)
	}
	return false
}

// within is a program in which statements stand in a function, or in main.
func within(function string, l ...api.Stmt) api.Program {
	if function == "" {
		return first(l...)
	}
	return api.Program{Funcs: []api.Func{fn("k", "A"), fn(function, "a", l...)}}
}

// G1: statements of all kinds, and of none, with as many parts as any: what is
// asked is asked of those that the kind has.
func TestG1WrongStatements(t *testing.T) {
	for _, op := range stmtOps() {
		for _, name := range []string{"x", "X", "", "_X", "[", "@A", "\xc1"} {
			for _, function := range []string{"", "f", "F", "_F", "0"} {
				for n := range 5 {
					for at := range n + 1 {
						s := do(op, name, oneSecret(n, at, ref("S"))...)
						tells := at < n && asks(op, name, function, at)
						checks(t, within(function, s), tells, fmt.Sprint(function, s))
						s.N = -1
						checks(t, within(function, do(api.If, "", ref("p")), s), tells, fmt.Sprint(function, s))
					}
				}
			}
		}
	}
}

// G1: a function that has no name is public; a Call of no name is of it.
func TestG1WrongNoNames(t *testing.T) {
	none := fn("", "a B")
	none.Params = append(none.Params, "")
	for at, tells := range []bool{true, false, true, false} {
		s := do(api.Keep, "", of(api.Call, "", oneSecret(4, at, ref("S"))...))
		checks(t, api.Program{Funcs: []api.Func{none}, Main: []api.Stmt{s}}, tells, "in main")
		checks(t, api.Program{Funcs: []api.Func{fn("f", "", s), none}}, tells, "in a function")
		checks(t, first(s), false, "main is no function")
		checks(t, api.Program{Funcs: []api.Func{fn("f", "a b")}, Main: []api.Stmt{s}}, false, "another")
	}
	none.Body = []api.Stmt{do(api.Return, "", ref("S"))}
	checks(t, api.Program{Funcs: []api.Func{none}}, true, "a Return of no name")
}

// G1: names that begin with other bytes than letters, and all others.
func TestG1WrongNames(t *testing.T) {
	for name, secret := range someNames() {
		f := api.Func{Name: name, Params: []string{name}}
		call := do(api.Keep, "", of(api.Call, name, ref("S")))
		checks(t, api.Program{Funcs: []api.Func{f}, Main: []api.Stmt{call}}, !secret, "parameter "+name)
		checks(t, first(do(api.Print, "", of(api.Call, name))), secret, "call "+name)
		checks(t, first(do(api.Print, "", ref(name))), secret, "print "+name)
		checks(t, first(do(api.Print, "", of(api.Index, name, ref("p")))), secret, "print place of "+name)
		checks(t, first(do(api.Print, name, ref("p"))), false, "print with name "+name)
		checks(t, first(do(api.Keep, name, of(api.Const, name, ref("S")))), false, "keep with name "+name)
		checks(t, first(do(api.Assign, name, ref("S"))), !secret, "assign to "+name)
		checks(t, first(do(api.Put, name, ref("p"), ref("S"))), !secret, "put into "+name)
		checks(t, first(do(api.Input, name), do(api.Array, name)), false, "input and array "+name)
		f.Body = []api.Stmt{do(api.Return, "X", ref("S"))}
		checks(t, api.Program{Funcs: []api.Func{f}}, !secret, "return of "+name)
	}
}

// told tells whether the part at this place of an expression must be public.
func told(op, at int) bool {
	return op == api.Index && at == 0 || (op == api.Div || op == api.Mod) && at == 1
}

// G1: expressions of all kinds, and of none, with as many parts as any, in each
// kind of statement.
func TestG1WrongExpressions(t *testing.T) {
	funcs := []api.Func{fn("f", "a B c D e"), fn("F", "A b C d E")}
	for _, op := range exprOps() {
		for _, name := range []string{"x", "X", "", "[", "f", "F"} {
			for n := range 7 {
				for at := range n + 1 {
					e := of(op, name, oneSecret(n, at, ref("S"))...)
					tells := at < n && told(op, at)
					if op == api.Call && at < min(n, 5) {
						tells = name == "f" && at%2 == 0 || name == "F" && at%2 == 1
					}
					for _, s := range []api.Stmt{do(api.Keep, "", e), do(api.Assign, "X", e), do(api.Array, "x", e), do(0, "", e), do(99, "", ref("p"), e), do(api.Print, "", ref("p"), of(api.Call, "nowhere", e))} {
						checks(t, api.Program{Funcs: funcs, Main: []api.Stmt{s}}, tells, fmt.Sprint(s))
						checks(t, api.Program{Funcs: append(slices.Clip(funcs), fn("g", "", s))}, tells, fmt.Sprint("g", s))
					}
				}
			}
		}
	}
}

// someTellings tell something, each in another way, inside of themselves.
func someTellings() []api.Expr {
	return []api.Expr{of(api.Index, "A", ref("S")), of(api.Index, "a", ref("S")), of(api.Div, "", ref("S"), ref("S")), of(api.Mod, "", ref("p"), ref("S")), of(api.Call, "F", ref("S")), of(api.Call, "f", ref("S"))}
}

// G1: what is told stands in any part of any statement and expression.
func TestG1WrongPartsGoneThrough(t *testing.T) {
	funcs := []api.Func{fn("f", "a"), fn("F", "a")}
	for _, e := range someTellings() {
		for n := 1; n < 5; n++ {
			for at := range n {
				parts := oneSecret(n, at, e)
				for _, op := range stmtOps() {
					for _, name := range []string{"x", "X"} {
						checks(t, api.Program{Funcs: funcs, Main: []api.Stmt{do(op, name, parts...)}}, true, fmt.Sprint("statement ", op, parts))
						checks(t, api.Program{Funcs: append(slices.Clip(funcs), fn("G", "", do(op, name, parts...)))}, true, fmt.Sprint("statement in G ", op, parts))
					}
				}
				for _, op := range exprOps() {
					for _, name := range []string{"x", "X", "f", "F"} {
						checks(t, api.Program{Funcs: funcs, Main: []api.Stmt{do(api.Keep, "", of(op, name, parts...))}}, true, fmt.Sprint("expression ", op, parts))
						checks(t, api.Program{Funcs: funcs, Main: []api.Stmt{do(0, "", ref("p"), of(op, name, parts...))}}, true, fmt.Sprint("expression in 0 ", op, parts))
					}
				}
			}
		}
	}
}

// G1: Body and Else of all kinds, those too that have none, deep in deep.
func TestG1WrongBlocksGoneThrough(t *testing.T) {
	for _, tells := range []bool{true, false} {
		for _, op := range stmtOps() {
			last := do(api.Print, "", ref("s"))
			if tells {
				last = do(api.Print, "", ref("S"))
			}
			for _, depth := range []int{1, 2, 3, 100, 9000} {
				for _, other := range []bool{false, true} {
					s := last
					for i := range depth {
						l := []api.Stmt{do(api.Keep, ""), s, do(api.Keep, "", ref("S"))}
						s = do(op, "x", ref("p"))
						if other != (i%3 == 1) {
							s.Else = l
						} else {
							s.Body = l
						}
					}
					checks(t, first(s), tells, fmt.Sprint(op, depth, other))
					checks(t, within("F", s), tells, fmt.Sprint("in F ", op, depth, other))
				}
			}
		}
	}
}

// G1: a Return deep in blocks of any kind is that of its function, and the next
// function's is its own.
func TestG1WrongReturns(t *testing.T) {
	for _, op := range stmtOps() {
		s := do(api.Return, "", ref("S"))
		for i := range 5 {
			outer := do(op, "x", ref("p"))
			outer.Body, outer.Else = []api.Stmt{s}, nil
			if i%2 == 1 {
				outer.Body, outer.Else = nil, []api.Stmt{s}
			}
			s = outer
		}
		checks(t, first(s), true, "main")
		checks(t, within("f", s), true, "f")
		checks(t, within("F", s), false, "F")
		checks(t, api.Program{Funcs: []api.Func{fn("F", "", s), fn("g", "", s)}}, true, "F and g")
		checks(t, api.Program{Funcs: []api.Func{fn("g", "", s), fn("F", "", s)}}, true, "g and F")
		checks(t, api.Program{Funcs: []api.Func{fn("g", ""), fn("F", "", s), fn("h", "")}, Main: []api.Stmt{do(api.Return, "", ref("s"))}}, false, "F alone")
		checks(t, api.Program{Funcs: []api.Func{fn("F", "")}, Main: []api.Stmt{s}}, true, "main beside F")
	}
}

// G1: expressions deep in deep, at each of two places; a Call of a public name on
// the way hides who is secret, not what is told.
func TestG1WrongDeep(t *testing.T) {
	for _, depth := range []int{1, 10, 62, 1000, 9000} {
		for _, op := range exprOps() {
			for at := range 2 {
				e, s := ref("p"), ref("S")
				for range depth {
					e, s = of(op, "x", oneSecret(2, at, e)...), of(op, "x", oneSecret(2, at, s)...)
				}
				checks(t, first(do(api.Print, "", e)), false, fmt.Sprint(op, depth, at, " public"))
				checks(t, first(do(api.Print, "", s)), op != api.Call, fmt.Sprint(op, depth, at))
				checks(t, first(do(api.Keep, "", s)), told(op, at), fmt.Sprint(op, depth, at, " kept"))
				e = of(api.Mod, "", ref("p"), ref("S"))
				for range depth / 2 {
					e = of(api.Call, "x", of(op, "x", oneSecret(2, at, e)...))
				}
				checks(t, first(do(api.Keep, "", e)), true, fmt.Sprint(op, depth, at, " in calls"))
			}
		}
	}
}

// G1: more functions, parameters and arguments than may be.
func TestG1WrongMany(t *testing.T) {
	p := api.Program{}
	for i := range 3000 {
		p.Funcs = append(p.Funcs, fn(fmt.Sprint("f", i), strings.Repeat("A ", i%50)+"b"))
	}
	for i := 0; i < 3000; i += 83 {
		n := i % 50
		for at := range n + 2 {
			p.Main = []api.Stmt{do(api.Keep, "", of(api.Call, fmt.Sprint("f", i), oneSecret(n+2, at, ref("S"))...))}
			checks(t, p, at == n, fmt.Sprint(i, at))
		}
	}
	p.Main = nil
	checks(t, p, false, "functions alone")
	p.Funcs[2999].Body = []api.Stmt{do(api.Print, "", ref("S"))}
	checks(t, p, true, "in the last one")
}
