package canon

import (
	"fmt"
	"math"
	"math/rand"
	"strings"
	"testing"

	"evenhand/api"
	"evenhand/parse"
	"evenhand/tree"
)

const name32 = "Abcdefghijklmnopqrstuvwxyz_01234"

func num(n int64) api.Expr { return api.Expr{Op: api.Const, N: n} }

func ref(name string) api.Expr { return api.Expr{Op: api.Var, Name: name} }

func of(op int, l ...api.Expr) api.Expr { return api.Expr{Op: op, L: l} }

func named(op int, name string, l ...api.Expr) api.Expr { return api.Expr{Op: op, Name: name, L: l} }

func do(op int, l ...api.Expr) api.Stmt { return api.Stmt{Op: op, L: l} }

func to(op int, name string, l ...api.Expr) api.Stmt { return api.Stmt{Op: op, Name: name, L: l} }

func block(op int, e api.Expr, body, other []api.Stmt) api.Stmt {
	return api.Stmt{Op: op, L: []api.Expr{e}, Body: body, Else: other}
}

func first(l ...api.Stmt) api.Program { return api.Program{Main: l} }

func inFunc(l ...api.Stmt) api.Program {
	return api.Program{Funcs: []api.Func{{Name: "f", Body: l}}}
}

// told asks for a program's text, and that this is parsed as the program.
func told(t *testing.T, p api.Program, want string) {
	t.Helper()
	got := Text(p)
	if got != want {
		t.Errorf("%.300q, want %.300q", got, want)
	}
	q, at, err := parse.Parse([]byte(got))
	if len(got) > api.MaxSource {
		if err != api.ErrArg {
			t.Errorf("%d bytes: %v", len(got), err)
		}
	} else if at != 0 || err != api.OK || !tree.Equal(p, q) {
		t.Errorf("%.300q: at %d, %v, %+v, want %+v", got, at, err, q, p)
	}
}

// nothing asks that nothing is told of a program.
func nothing(t *testing.T, what string, p api.Program) {
	t.Helper()
	if got := Text(p); got != "" {
		t.Errorf("%s: %.300q of %+v", what, got, p)
	}
}

// exprTold, linesTold and programTold are the chapter's rules, told apart from
// the program's own way: of what stands inside there are texts, or lines, first;
// a line that stands in one more block has one more tab.
func exprTold(e api.Expr) string {
	var l []string
	for _, x := range e.L {
		l = append(l, exprTold(x))
	}
	switch e.Op {
	case 1:
		return fmt.Sprint(e.N)
	case 2:
		return e.Name
	case 3:
		return "clock"
	case 4:
		return e.Name + "[" + l[0] + "]"
	case 5:
		return e.Name + "(" + strings.Join(l, ", ") + ")"
	case 6, 7:
		return "-!"[e.Op-6:e.Op-5] + l[0]
	}
	mark := strings.Fields("+ - * / % < == & |")[e.Op-8]
	return fmt.Sprintf("(%s %s %s)", l[0], mark, l[1])
}

func linesTold(l []api.Stmt) (out []string) {
	for _, s := range l {
		var e []string
		for _, x := range s.L {
			e = append(e, exprTold(x))
		}
		switch s.Op {
		case 1:
			out = append(out, fmt.Sprintf("%s = %s;", s.Name, e[0]))
		case 2:
			out = append(out, fmt.Sprintf("%s[%s] = %s;", s.Name, e[0], e[1]))
		case 3:
			out = append(out, fmt.Sprintf("array %s %d;", s.Name, s.N))
		case 4:
			out = append(out, fmt.Sprintf("input %s;", s.Name))
		case 5, 6, 9:
			out = append(out, fmt.Sprintf("%s %s;", []string{5: "print", 6: "keep", 9: "return"}[s.Op], e[0]))
		case 7, 8:
			out = append(out, fmt.Sprintf("%s %s {", []string{7: "if", 8: "while"}[s.Op], e[0]))
			out = append(out, further(linesTold(s.Body))...)
			if len(s.Else) > 0 {
				out = append(append(out, "} else {"), further(linesTold(s.Else))...)
			}
			out = append(out, "}")
		}
	}
	return out
}

func further(l []string) (out []string) {
	for _, s := range l {
		out = append(out, "\t"+s)
	}
	return out
}

func programTold(p api.Program) string {
	var l []string
	for _, f := range p.Funcs {
		l = append(l, fmt.Sprintf("func %s(%s) {", f.Name, strings.Join(f.Params, ", ")))
		l = append(append(l, further(linesTold(f.Body))...), "}")
	}
	l = append(append(l, linesTold(p.Main)...), "")
	return strings.Join(l, "\n")
}

// some is a right program, drawn with a fixed source.
func some(r *rand.Rand) api.Program {
	p := api.Program{Main: someStmts(r, 4)}
	for range r.Intn(4) {
		f := api.Func{Name: someName(r), Body: someStmts(r, 3)}
		for range r.Intn(9) {
			f.Params = append(f.Params, someName(r))
		}
		p.Funcs = append(p.Funcs, f)
	}
	return p
}

func someName(r *rand.Rand) string {
	return []string{"x", "Y", "z9_", "iff", "Clock", name32}[r.Intn(6)]
}

func someStmts(r *rand.Rand, left int) (l []api.Stmt) {
	for range r.Intn(left + 1) {
		s := api.Stmt{Op: 1 + r.Intn(9)}
		if s.Op <= 4 {
			s.Name = someName(r)
		}
		if s.Op == api.Array {
			s.N = 1 + r.Int63n(4096)
		}
		s.L = someExprs(r, []int{1: 1, 2: 2, 5: 1, 6: 1, 7: 1, 8: 1, 9: 1}[s.Op], 4)
		if s.Op == api.If {
			s.Else = someStmts(r, left-1)
		}
		if s.Op == api.If || s.Op == api.While {
			s.Body = someStmts(r, left-1)
		}
		l = append(l, s)
	}
	return l
}

func someExprs(r *rand.Rand, n, left int) (l []api.Expr) {
	for range n {
		e := api.Expr{Op: 1 + r.Intn(16)}
		if left == 0 {
			e.Op = 1 + r.Intn(3)
		}
		parts := min(e.Op/api.Index, 2) // none, one of Index to Not, then two
		switch e.Op {
		case api.Const:
			e.N = math.MaxInt64 >> r.Intn(64)
		case api.Var, api.Index, api.Call:
			e.Name = someName(r)
		}
		if e.Op == api.Call {
			parts = r.Intn(9)
		}
		e.L = someExprs(r, parts, left-1)
		l = append(l, e)
	}
	return l
}
