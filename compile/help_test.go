package compile

import (
	"slices"
	"strconv"
	"strings"
	"testing"

	"evenhand/api"
	"evenhand/code"
	"evenhand/parse"
	"evenhand/scope"
)

// ins is an instruction, written out: its Op, A and N.
type ins struct {
	op, a int
	n     int64
}

// fn is a function, written out; L without the Push of 0 and the Return behind
// its body.
type fn struct {
	name                 string
	params, vars, arrays int
	l                    []ins
}

func ref(name string) api.Expr { return api.Expr{Op: api.Var, Name: name} }

func number(n int64) api.Expr { return api.Expr{Op: api.Const, N: n} }

func of(op int, name string, l ...api.Expr) api.Expr { return api.Expr{Op: op, Name: name, L: l} }

func do(op int, name string, l ...api.Expr) api.Stmt { return api.Stmt{Op: op, Name: name, L: l} }

func first(l ...api.Stmt) api.Program { return api.Program{Main: l} }

// program is what a text says.
func program(t *testing.T, s string) api.Program {
	t.Helper()
	p, at, err := parse.Parse([]byte(s))
	if err != api.OK {
		t.Fatalf("%.300q is no program: %d, %v", s, at, err)
	}
	return p
}

// outs writes instructions out.
func outs(l []code.Ins) (out []ins) {
	for _, in := range l {
		out = append(out, ins{in.Op, in.A, in.N})
	}
	return out
}

// ended has behind a body what stands behind each: Push of 0, Return.
func ended(l []ins) []ins {
	return append(slices.Clone(l), ins{code.Push, 0, 0}, ins{code.Return, 0, 0})
}

// compiles asks for the code of a program: its functions in order, main first.
func compiles(t *testing.T, what string, p api.Program, want ...fn) {
	t.Helper()
	c, err := Compile(p)
	if err != api.OK || len(c.Fns) != len(want) {
		t.Errorf("%.300s: %d functions, %v, want %d", what, len(c.Fns), err, len(want))
		return
	}
	for i, w := range want {
		f := c.Fns[i]
		if f.Name != w.name || f.Params != w.params || f.Vars != w.vars || f.Arrays != w.arrays {
			t.Errorf("%.300s: function %d is %q %d %d %d, want %q %d %d %d", what, i, f.Name, f.Params, f.Vars, f.Arrays, w.name, w.params, w.vars, w.arrays)
		}
		if got := outs(f.L); !slices.Equal(got, ended(w.l)) {
			t.Errorf("%.300s: function %d:\n%v, want\n%v", what, i, got, ended(w.l))
		}
	}
}

// mainOf asks for the instructions of a text's main, that stand ahead of the
// Push of 0 and the Return.
func mainOf(t *testing.T, s string, want ...ins) {
	t.Helper()
	c, err := Compile(program(t, s))
	if err != api.OK || len(c.Fns) == 0 {
		t.Errorf("%.300q: %d functions, %v", s, len(c.Fns), err)
		return
	}
	if got := outs(c.Fns[0].L); !slices.Equal(got, ended(want)) {
		t.Errorf("%.300q:\n%v, want\n%v", s, got, ended(want))
	}
}

// told writes code in short, all that it has.
func told(c code.Code) string {
	var b strings.Builder
	for _, f := range c.Fns {
		b.WriteString(f.Name)
		for _, n := range []int{f.Params, f.Vars, f.Arrays} {
			b.WriteString(" " + strconv.Itoa(n))
		}
		b.WriteString(":")
		for _, in := range f.L {
			b.WriteString(" " + strconv.Itoa(in.Op) + "," + strconv.Itoa(in.A) + "," + strconv.FormatInt(in.N, 10))
		}
		b.WriteString("\n")
	}
	return b.String()
}

// names are n different ones.
func names(head string, n int) (l []string) {
	for i := range n {
		l = append(l, head+strconv.Itoa(i))
	}
	return l
}

// each is a text for each name, that stands in it as @, one behind the other.
func each(l []string, s string) string {
	var out []string
	for _, name := range l {
		out = append(out, strings.ReplaceAll(s, "@", name))
	}
	return strings.Join(out, " ")
}

// rows are the scopes of a program that may be compiled.
func rows(t *testing.T, p api.Program) []scope.Scope {
	t.Helper()
	l, err := scope.Resolve(p)
	if err != api.OK {
		t.Fatalf("is not resolved: %v", err)
	}
	return l
}
