package scope

import (
	"math/rand"
	"slices"
	"strconv"
	"strings"
	"testing"

	"evenhand/api"
	"evenhand/canon"
	"evenhand/lex"
	"evenhand/parse"
	"evenhand/tree"
)

func one() []api.Expr { return []api.Expr{{Op: api.Const, N: 1}} }

// program is what a text says.
func program(t *testing.T, s string) api.Program {
	t.Helper()
	p, at, err := parse.Parse([]byte(s))
	if err != api.OK {
		t.Fatalf("%.300q is no program: %d, %v", s, at, err)
	}
	return p
}

// told writes scopes in short: name/params: variables; arrays, and a bar between
// each two.
func told(l []Scope) string {
	var out []string
	for _, s := range l {
		out = append(out, s.Name+"/"+strconv.Itoa(s.Params)+": "+strings.Join(s.Vars, " ")+"; "+strings.Join(s.Arrays, " "))
	}
	return strings.Join(out, " | ")
}

// resolves asks for the scopes of a text, in short.
func resolves(t *testing.T, s, want string) {
	t.Helper()
	l, err := Resolve(program(t, s))
	if got := told(l); err != api.OK || got != want {
		t.Errorf("%.300q: %q, %v, want %q", s, got, err, want)
	}
}

// refuses asks that a text is a program, and that Resolve tells this error of it.
func refuses(t *testing.T, want api.Errno, s string) {
	t.Helper()
	refusesProgram(t, want, program(t, s), s)
}

func refusesProgram(t *testing.T, want api.Errno, p api.Program, what string) {
	t.Helper()
	if l, err := Resolve(p); len(l) != 0 || err != want {
		t.Errorf("%.300q: %q, %v, want %v", what, told(l), err, want)
	}
}

// byText is the chapter's rules, told apart from the program's own way: names
// are read from the left, out of the program's text (5).
func byText(t *testing.T, p api.Program) ([]Scope, api.Errno) {
	t.Helper()
	if err := tree.Right(p); err != api.OK {
		return nil, err
	}
	var l []reading
	for _, f := range p.Funcs {
		l = append(l, read(t, f.Name, f.Params, f.Body))
	}
	l = append([]reading{read(t, "", nil, p.Main)}, l...)
	full := false
	for i, r := range l {
		for _, other := range l[i+1:] {
			if i > 0 && other.Name == r.Name {
				return nil, api.ErrName
			}
		}
		if r.wrong(l[1:]) {
			return nil, api.ErrName
		}
		full = full || len(r.Vars) > 64 || len(r.Arrays) > 64
	}
	if full {
		return nil, api.ErrFull
	}
	var out []Scope
	for _, r := range l {
		out = append(out, r.Scope)
	}
	return out, api.OK
}

type asked struct {
	name  string
	parts int
}

type reading struct {
	Scope
	params []string
	made   []string
	calls  []asked
}

func read(t *testing.T, name string, params []string, body []api.Stmt) reading {
	r := reading{Scope: Scope{Name: name, Params: len(params)}, params: params}
	for _, s := range params {
		r.Vars = further(r.Vars, s)
	}
	l, _, err := lex.Lex([]byte(canon.Text(api.Program{Main: body})))
	if err != api.OK {
		t.Fatal(err)
	}
	for i, x := range l {
		switch {
		case x.Kind != lex.Word || !tree.Name(x.Text):
		case l[i+1].Text == "(":
			r.calls = append(r.calls, asked{x.Text, parts(l[i+1:])})
		case l[i+1].Text == "[":
			r.Arrays = further(r.Arrays, x.Text)
		case i > 0 && l[i-1].Text == "array":
			r.Arrays, r.made = further(r.Arrays, x.Text), further(r.made, x.Text)
		default:
			r.Vars = further(r.Vars, x.Text)
		}
	}
	return r
}

// further has a name behind the others, if it is not there.
func further(l []string, name string) []string {
	if slices.Contains(l, name) {
		return l
	}
	return append(l, name)
}

// parts counts the parts of a call, from its bracket on.
func parts(l []lex.Token) int {
	if l[1].Text == ")" {
		return 0
	}
	n, open := 1, 0
	for _, x := range l {
		switch x.Text {
		case "(", "[":
			open++
		case ")", "]":
			open--
		case ",":
			if open == 1 {
				n++
			}
		}
		if open == 0 {
			break
		}
	}
	return n
}

func (r reading) wrong(funcs []reading) bool {
	for i, s := range r.params {
		if slices.Contains(r.params[i+1:], s) {
			return true
		}
	}
	for _, s := range r.Arrays {
		if slices.Contains(r.Vars, s) || !slices.Contains(r.made, s) {
			return true
		}
	}
	for _, c := range r.calls {
		if !slices.ContainsFunc(funcs, func(f reading) bool { return f.Name == c.name && f.Params == c.parts }) {
			return true
		}
	}
	return false
}

// agrees holds Resolve against the text's way, and tells what that says.
func agrees(t *testing.T, p api.Program) api.Errno {
	t.Helper()
	want, wantErr := byText(t, p)
	got, err := Resolve(p)
	if told(got) != told(want) || err != wantErr {
		t.Errorf("%.600q: %q, %v, want %q, %v", canon.Text(p), told(got), err, told(want), wantErr)
	}
	return wantErr
}

// names are n different ones.
func names(head string, n int) (l []string) {
	for i := range n {
		l = append(l, head+strconv.Itoa(i))
	}
	return l
}

// each is a text for each name, that stands in it as @, one behind the other.
func each(l []string, s string) string {
	var out []string
	for _, name := range l {
		out = append(out, strings.ReplaceAll(s, "@", name))
	}
	return strings.Join(out, " ")
}

// some is a program, drawn with a fixed source; most of its names are used as
// one thing alone.
func some(r *rand.Rand) api.Program {
	p := api.Program{Main: someStmts(r, 3)}
	for i := range r.Intn(4) {
		f := api.Func{Name: "f" + strconv.Itoa(i), Body: someStmts(r, 2)}
		for j := range i {
			f.Params = append(f.Params, []string{"v", "P", "q"}[j])
		}
		if r.Intn(20) == 0 {
			f.Name = "f0"
		}
		if r.Intn(20) == 0 {
			f.Params = append(f.Params, "v")
		}
		p.Funcs = append(p.Funcs, f)
	}
	return p
}

func someName(r *rand.Rand, l ...string) string {
	if r.Intn(150) == 0 {
		l = []string{"v", "w", "A", "b", "f0", "f1"}
	}
	return l[r.Intn(len(l))]
}

func someVar(r *rand.Rand) string { return someName(r, "v", "w", "X", "P", "f1") }

func someArray(r *rand.Rand) string { return someName(r, "A", "b", "f2") }

func someStmts(r *rand.Rand, left int) (l []api.Stmt) {
	made := []string{"A", "b", "f2"}
	r.Shuffle(len(made), func(i, j int) { made[i], made[j] = made[j], made[i] })
	for range r.Intn(3*left + 1) {
		s := api.Stmt{Op: 1 + r.Intn(9)}
		switch s.Op {
		case api.Assign, api.Input:
			s.Name = someVar(r)
		case api.Put:
			s.Name = someArray(r)
		case api.Array:
			s.Name, s.N = someArray(r), 1
		case api.If:
			s.Body, s.Else = someStmts(r, left-1), someStmts(r, left-1)
		case api.While:
			s.Body = someStmts(r, left-1)
		}
		s.L = someExprs(r, []int{1: 1, 2: 2, 5: 1, 6: 1, 7: 1, 8: 1, 9: 1}[s.Op], 3)
		l = append(l, s)
	}
	for _, name := range made {
		if left > 1 && r.Intn(20) > 0 {
			l = slices.Insert(l, r.Intn(len(l)+1), api.Stmt{Op: api.Array, Name: name, N: 1})
		}
	}
	return l
}

func someExprs(r *rand.Rand, n, left int) (l []api.Expr) {
	for range n {
		e := api.Expr{Op: 1 + r.Intn(16)}
		if left == 0 {
			e.Op = 1 + r.Intn(3)
		}
		parts := min(e.Op/api.Index, 2) // none, one of Index to Not, then two
		switch e.Op {
		case api.Var:
			e.Name = someVar(r)
		case api.Index:
			e.Name = someArray(r)
		case api.Call:
			parts = r.Intn(3)
			e.Name = "f" + strconv.Itoa(parts)
		}
		e.L = someExprs(r, parts, left-1)
		l = append(l, e)
	}
	return l
}
