package parse

import (
	"math/rand"
	"strconv"
	"strings"
	"testing"

	"evenhand/api"
	"evenhand/tree"
)

func num(n int64) api.Expr { return api.Expr{Op: api.Const, N: n} }

func ref(name string) api.Expr { return api.Expr{Op: api.Var, Name: name} }

func of(op int, l ...api.Expr) api.Expr { return api.Expr{Op: op, L: l} }

func index(name string, e api.Expr) api.Expr {
	return api.Expr{Op: api.Index, Name: name, L: []api.Expr{e}}
}

func call(name string, l ...api.Expr) api.Expr { return api.Expr{Op: api.Call, Name: name, L: l} }

func set(name string, e api.Expr) api.Stmt {
	return api.Stmt{Op: api.Assign, Name: name, L: []api.Expr{e}}
}

func put(name string, at, e api.Expr) api.Stmt {
	return api.Stmt{Op: api.Put, Name: name, L: []api.Expr{at, e}}
}

func do(op int, e api.Expr) api.Stmt { return api.Stmt{Op: op, L: []api.Expr{e}} }

func block(op int, e api.Expr, body, other []api.Stmt) api.Stmt {
	return api.Stmt{Op: op, L: []api.Expr{e}, Body: body, Else: other}
}

func first(l ...api.Stmt) api.Program { return api.Program{Main: l} }

// says asks that a text is a program, and which one.
func says(t *testing.T, s string, want api.Program) {
	t.Helper()
	got, at, err := Parse([]byte(s))
	if at != 0 || err != api.OK || !tree.Equal(got, want) {
		t.Errorf("%.200q: at %d, %v, %+v, want %+v", s, at, err, got, want)
	}
}

// right asks that a text is a program, of whatever it is; what is parsed is
// right (3).
func right(t *testing.T, s string) {
	t.Helper()
	p, at, err := Parse([]byte(s))
	if at != 0 || err != api.OK || tree.Right(p) != api.OK {
		t.Errorf("%.200q: at %d, %v, Right %v", s, at, err, tree.Right(p))
	}
}

// wrong asks that a text is none, and for what is told beside that.
func wrong(t *testing.T, s string, at int, err api.Errno) {
	t.Helper()
	p, n, e := Parse([]byte(s))
	if n != at || e != err || !tree.Equal(p, api.Program{}) {
		t.Errorf("%.200q: at %d, %v, want at %d, %v (%d functions, %d statements)", s, n, e, at, err, len(p.Funcs), len(p.Main))
	}
}

// marked asks for an error whose place is shown by a ^, that does not stand in
// the text itself.
func marked(t *testing.T, s string, err api.Errno) {
	t.Helper()
	at := strings.Index(s, "^")
	wrong(t, s[:at]+s[at+1:], at, err)
}

// strengths are the operations of two as the chapter lists them: what stands
// further down binds more strongly.
func strengths() [][]string {
	return [][]string{{"|"}, {"&"}, {"==", "<"}, {"+", "-"}, {"*", "/", "%"}}
}

func strength(mark string) int {
	for i, l := range strengths() {
		for _, m := range l {
			if m == mark {
				return i
			}
		}
	}
	return -1
}

func twos() (l []string) {
	for _, same := range strengths() {
		l = append(l, same...)
	}
	return l
}

func opOf(mark string) int {
	return map[string]int{"+": 8, "-": 9, "*": 10, "/": 11, "%": 12, "<": 13, "==": 14, "&": 15, "|": 16}[mark]
}

func markOf(op int) string {
	for _, m := range twos() {
		if opOf(m) == op {
			return m
		}
	}
	return ""
}

// writer writes programs as tokens, with brackets where they must be, and with
// some where they need not be.
type writer struct {
	r    *rand.Rand
	list []string
}

func (w *writer) add(l ...string) { w.list = append(w.list, l...) }

func (w *writer) program(p api.Program) {
	for _, f := range p.Funcs {
		w.add("func", f.Name, "(")
		for i, s := range f.Params {
			if i > 0 {
				w.add(",")
			}
			w.add(s)
		}
		w.add(")")
		w.block(f.Body)
	}
	w.stmts(p.Main)
}

func (w *writer) block(l []api.Stmt) {
	w.add("{")
	w.stmts(l)
	w.add("}")
}

func (w *writer) stmts(l []api.Stmt) {
	for _, s := range l {
		w.stmt(s)
	}
}

func (w *writer) stmt(s api.Stmt) {
	switch s.Op {
	case api.Assign:
		w.add(s.Name, "=")
		w.expr(s.L[0], 0)
	case api.Put:
		w.add(s.Name, "[")
		w.expr(s.L[0], 0)
		w.add("]", "=")
		w.expr(s.L[1], 0)
	case api.Array:
		w.add("array", s.Name, decimal(s.N))
	case api.Input:
		w.add("input", s.Name)
	default:
		w.add(map[int]string{5: "print", 6: "keep", 7: "if", 8: "while", 9: "return"}[s.Op])
		w.expr(s.L[0], 0)
	}
	if s.Op != api.If && s.Op != api.While {
		w.add(";")
		return
	}
	w.block(s.Body)
	if len(s.Else) > 0 {
		w.add("else")
		w.block(s.Else)
	}
}

// expr writes an expression where only what binds at least that strongly may
// stand without brackets.
func (w *writer) expr(e api.Expr, least int) {
	mark := markOf(e.Op)
	if mark != "" && strength(mark) < least || w.r.Intn(8) == 0 {
		w.add("(")
		w.expr(e, 0)
		w.add(")")
		return
	}
	switch e.Op {
	case api.Const:
		w.add(decimal(e.N))
	case api.Clock:
		w.add("clock")
	case api.Neg, api.Not:
		w.add(map[int]string{6: "-", 7: "!"}[e.Op])
		w.expr(e.L[0], len(strengths()))
	case api.Var:
		w.add(e.Name)
	case api.Index:
		w.add(e.Name)
		w.exprs("[", "]", e.L)
	case api.Call:
		w.add(e.Name)
		w.exprs("(", ")", e.L)
	default:
		w.expr(e.L[0], strength(mark))
		w.add(mark)
		w.expr(e.L[1], strength(mark)+1)
	}
}

func (w *writer) exprs(from, to string, l []api.Expr) {
	w.add(from)
	for i, e := range l {
		if i > 0 {
			w.add(",")
		}
		w.expr(e, 0)
	}
	w.add(to)
}

func decimal(n int64) string { return strconv.FormatInt(n, 10) }

// some is a right program, drawn with a fixed source.
func some(r *rand.Rand) api.Program {
	p := api.Program{Main: someStmts(r, 4)}
	for range r.Intn(3) {
		f := api.Func{Name: someName(r), Body: someStmts(r, 3)}
		for range r.Intn(4) {
			f.Params = append(f.Params, someName(r))
		}
		p.Funcs = append(p.Funcs, f)
	}
	return p
}

func someName(r *rand.Rand) string {
	return []string{"x", "Y", "iff", "Func", "a_1", "clocks", strings.Repeat("z", 32)}[r.Intn(7)]
}

func someStmts(r *rand.Rand, left int) (l []api.Stmt) {
	for range r.Intn(left + 1) {
		l = append(l, someStmt(r, left-1))
	}
	return l
}

func someStmt(r *rand.Rand, left int) api.Stmt {
	switch op := 1 + r.Intn(9); op {
	case api.Assign:
		return set(someName(r), someExpr(r, 4))
	case api.Put:
		return put(someName(r), someExpr(r, 3), someExpr(r, 3))
	case api.Array:
		return api.Stmt{Op: op, Name: someName(r), N: 1 + r.Int63n(4096)}
	case api.Input:
		return api.Stmt{Op: op, Name: someName(r)}
	case api.If:
		return block(op, someExpr(r, 2), someStmts(r, left), someStmts(r, left))
	case api.While:
		return block(op, someExpr(r, 2), someStmts(r, left), nil)
	default:
		return do(op, someExpr(r, 4))
	}
}

func someExpr(r *rand.Rand, left int) api.Expr {
	op := 1 + r.Intn(16)
	if left == 0 {
		op = 1 + r.Intn(3)
	}
	switch op {
	case api.Const:
		return num(r.Int63() >> r.Intn(63))
	case api.Var:
		return ref(someName(r))
	case api.Clock:
		return of(op)
	case api.Index:
		return index(someName(r), someExpr(r, left-1))
	case api.Call:
		e := call(someName(r))
		for range r.Intn(4) {
			e.L = append(e.L, someExpr(r, left-1))
		}
		return e
	case api.Neg, api.Not:
		return of(op, someExpr(r, left-1))
	}
	return of(op, someExpr(r, left-1), someExpr(r, left-1))
}
