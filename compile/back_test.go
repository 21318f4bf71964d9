package compile

import (
	"strings"
	"testing"

	"evenhand/api"
	"evenhand/canon"
	"evenhand/code"
	"evenhand/scope"
	"evenhand/tree"
)

// reader reads a function's code back as statements: the chapter's rules, from
// behind. It is strict: what is not just as the chapter says is wrong.
type reader struct {
	scope.Scope
	all   []scope.Scope
	l     []code.Ins
	at    int
	wrong string
}

// programOf is the program that code says, if it has a function for each scope.
func programOf(c code.Code, all []scope.Scope) (api.Program, string) {
	var p api.Program
	if len(c.Fns) != len(all) {
		return p, "number of functions"
	}
	for i, f := range c.Fns {
		s := all[i]
		if f.Name != s.Name || f.Params != s.Params || f.Vars != len(s.Vars) || f.Arrays != len(s.Arrays) {
			return p, "what function " + f.Name + " has"
		}
		end := len(f.L) - 2
		if end < 0 || f.L[end] != (code.Ins{Op: code.Push}) || f.L[end+1] != (code.Ins{Op: code.Return}) {
			return p, "end of function " + f.Name
		}
		r := &reader{Scope: s, all: all, l: f.L[:end]}
		body := r.block(end)
		if r.wrong != "" {
			return p, "function " + f.Name + ": " + r.wrong
		}
		if i == 0 {
			p.Main = body
		} else {
			p.Funcs = append(p.Funcs, api.Func{Name: f.Name, Params: s.Vars[:s.Params], Body: body})
		}
	}
	return p, ""
}

func (r *reader) fail(what string) {
	if r.wrong == "" {
		r.wrong = what + " at " + code.Text(r.l[:min(r.at+1, len(r.l))])
	}
}

// block reads statements up to a place, at which one must end.
func (r *reader) block(end int) (l []api.Stmt) {
	for r.at < end && r.wrong == "" {
		l = append(l, r.statement())
	}
	if r.at != end {
		r.fail("no statement's end")
	}
	return l
}

// statement reads expressions till one of a statement's instructions comes, to
// which all that they left are parts.
func (r *reader) statement() api.Stmt {
	begin := r.at
	var stack []api.Expr
	for ; r.at < len(r.l) && r.wrong == ""; r.at++ {
		in := r.l[r.at]
		if s, ok := r.ends(in); ok {
			s.L = stack
			r.at++
			if in.Op == code.Zero {
				return r.blocks(begin, in.A, s)
			}
			return s
		}
		e, parts := r.expression(in)
		if parts > len(stack) {
			r.fail("too few numbers")
			break
		}
		e.L = append([]api.Expr(nil), stack[len(stack)-parts:]...)
		stack = append(stack[:len(stack)-parts:len(stack)-parts], e)
	}
	r.fail("no end")
	return api.Stmt{}
}

// blocks reads what stands behind the Zero of a statement that begins there:
// ahead of the place to which that goes stands a Jump.
func (r *reader) blocks(begin, zero int, s api.Stmt) api.Stmt {
	if zero <= r.at || zero > len(r.l) || r.l[zero-1].Op != code.Jump {
		r.fail("a Zero goes wrong")
		return s
	}
	jump := r.l[zero-1]
	r.plain(jump, true, false)
	s.Op = api.If
	if jump.A < zero {
		s.Op = api.While
	}
	s.Body = r.block(zero - 1)
	r.at++
	switch {
	case s.Op == api.While && jump.A != begin, jump.A > len(r.l):
		r.fail("a Jump goes wrong")
	case s.Op == api.If:
		s.Else = r.block(jump.A)
	}
	return s
}

// plain asks that what means nothing is 0.
func (r *reader) plain(in code.Ins, a, n bool) {
	if !a && in.A != 0 || !n && in.N != 0 {
		r.fail("A or N")
	}
}

func (r *reader) name(l []string, in code.Ins, n bool) string {
	r.plain(in, true, n)
	if in.A < 0 || in.A >= len(l) {
		r.fail("no such place")
		return ""
	}
	return l[in.A]
}

// ends is the statement, without its parts, whose last instruction this is, or
// whose Zero.
func (r *reader) ends(in code.Ins) (api.Stmt, bool) {
	switch in.Op {
	case code.Store:
		return do(api.Assign, r.name(r.Vars, in, false)), true
	case code.Set:
		return do(api.Put, r.name(r.Arrays, in, false)), true
	case code.Array:
		return api.Stmt{Op: api.Array, Name: r.name(r.Arrays, in, true), N: in.N}, true
	case code.Input:
		s := do(api.Input, r.name(r.Vars, in, true))
		great := s.Name != "" && strings.Contains("ABCDEFGHIJKLMNOPQRSTUVWXYZ", s.Name[:1])
		if great && in.N != 1 || !great && in.N != 0 {
			r.fail("which input")
		}
		return s, true
	case code.Zero:
		r.plain(in, true, false)
		return api.Stmt{}, true
	case code.Print, code.Keep, code.Return:
		r.plain(in, false, false)
		return do(map[int]int{code.Print: api.Print, code.Keep: api.Keep, code.Return: api.Return}[in.Op], ""), true
	}
	return api.Stmt{}, false
}

// expression is the one, without its parts, whose last instruction this is, and
// how many parts it has.
func (r *reader) expression(in code.Ins) (api.Expr, int) {
	switch in.Op {
	case code.Push:
		r.plain(in, false, true)
		return number(in.N), 0
	case code.Load:
		return ref(r.name(r.Vars, in, false)), 0
	case code.Get:
		return of(api.Index, r.name(r.Arrays, in, false)), 1
	case code.Call:
		r.plain(in, true, false)
		if in.A < 1 || in.A >= len(r.all) {
			r.fail("no such function")
			return api.Expr{}, 0
		}
		return of(api.Call, r.all[in.A].Name), r.all[in.A].Params
	}
	r.plain(in, false, false)
	marks := map[string]int{
		"clock": api.Clock, "neg": api.Neg, "not": api.Not, "add": api.Add, "sub": api.Sub, "mul": api.Mul, "div": api.Div, "mod": api.Mod,
		"less": api.Less, "same": api.Same, "and": api.And, "or": api.Or,
	}
	op, ok := marks[code.Name(in.Op)]
	if !ok {
		r.fail("no expression")
	}
	return of(op, ""), code.Takes(in.Op)
}

// isReadBack asks that a program's code says it, and nothing else.
func isReadBack(t *testing.T, p api.Program) {
	t.Helper()
	c, err := Compile(p)
	if err != api.OK {
		t.Errorf("%.600q: %v", canon.Text(p), err)
		return
	}
	got, wrong := programOf(c, rows(t, p))
	if wrong != "" || !tree.Equal(got, p) {
		t.Errorf("%.600q: %.600s\n%.600q", canon.Text(p), wrong, canon.Text(got))
	}
}

// The reader sees what is wrong: else it would prove nothing.
func TestI1ReaderIsStrict(t *testing.T) {
	const text = "func f(a, B) { array c 2; c[a] = B; input D; return f(a, c[1]); } x = 1; if x + 1 { print clock; } else { keep f(x, 2); } while x < 2 { x = -x; }"
	p := program(t, text)
	changes := 0
	for i := range 2 {
		for at := range 40 {
			for _, change := range []func(*code.Ins){
				func(in *code.Ins) { in.Op++ }, func(in *code.Ins) { in.Op-- }, func(in *code.Ins) { in.A++ }, func(in *code.Ins) { in.A-- }, func(in *code.Ins) { in.N++ }, func(in *code.Ins) { in.N-- },
			} {
				c, err := Compile(p)
				if err != api.OK || len(c.Fns) != 2 {
					t.Fatal(err)
				}
				if at >= len(c.Fns[i].L) {
					continue
				}
				change(&c.Fns[i].L[at])
				changes++
				if got, wrong := programOf(c, rows(t, p)); wrong == "" && tree.Equal(got, p) {
					t.Errorf("function %d, place %d: not seen", i, at)
				}
			}
		}
	}
	if changes < 200 {
		t.Error(changes, "changes alone")
	}
}
