package label

import (
	"math"
	"math/rand"
	"slices"
	"strings"
	"testing"

	"evenhand/api"
	"evenhand/parse"
)

func ref(name string) api.Expr { return api.Expr{Op: api.Var, Name: name} }

func of(op int, name string, l ...api.Expr) api.Expr { return api.Expr{Op: op, Name: name, L: l} }

func do(op int, name string, l ...api.Expr) api.Stmt { return api.Stmt{Op: op, Name: name, L: l} }

func first(l ...api.Stmt) api.Program { return api.Program{Main: l} }

func fn(name, params string, l ...api.Stmt) api.Func {
	return api.Func{Name: name, Params: strings.Fields(params), Body: l}
}

// program is what a text says.
func program(t *testing.T, s string) api.Program {
	t.Helper()
	p, at, err := parse.Parse([]byte(s))
	if err != api.OK {
		t.Fatalf("%.300q is no program: %d, %v", s, at, err)
	}
	return p
}

// checks asks whether a program tells a secret.
func checks(t *testing.T, p api.Program, tells bool, what string) {
	t.Helper()
	want := api.OK
	if tells {
		want = api.ErrLabel
	}
	if got := Check(p); got != want {
		t.Errorf("%.300s: %v, want %v", what, got, want)
	}
}

func lets(t *testing.T, s string) {
	t.Helper()
	checks(t, program(t, s), false, s)
}

func refuses(t *testing.T, s string) {
	t.Helper()
	checks(t, program(t, s), true, s)
}

// in has a text in the place of each @ of another.
func in(place, s string) string { return strings.ReplaceAll(place, "@", s) }

// exprOps and stmtOps are all kinds, and some that there are not.
func exprOps() []int { return append(upTo(api.Or+3), wild()...) }

func stmtOps() []int { return append(upTo(api.Return+3), wild()...) }

func wild() []int { return []int{-1, -2, -api.Div, 255, 256 + api.Index, math.MaxInt, math.MinInt} }

func upTo(n int) (l []int) {
	for i := range n {
		l = append(l, i)
	}
	return l
}

// oneSecret is n parts, of which the one at this place is secret (if it is one
// of them).
func oneSecret(n, at int, s api.Expr) []api.Expr {
	l := make([]api.Expr, n)
	for i := range l {
		l[i] = ref("p")
	}
	if at < n {
		l[at] = s
	}
	return l
}

// great tells whether a text begins with a great letter: each is written out,
// as the chapter's words hang on it.
func great(s string) bool {
	return len(s) > 0 && strings.Contains("ABCDEFGHIJKLMNOPQRSTUVWXYZ", s[:1])
}

// seenIn are the names that an expression shows, calls' parts left out.
func seenIn(e api.Expr) (names []string) {
	for wait := []api.Expr{e}; len(wait) > 0; {
		x := wait[len(wait)-1]
		wait = wait[:len(wait)-1]
		if x.Op == api.Var || x.Op == api.Index || x.Op == api.Call {
			names = append(names, x.Name)
		}
		if x.Op != api.Call {
			wait = append(wait, x.L...)
		}
	}
	return names
}

// flow is an expression that comes to a name; to everyone, if that is empty.
type flow struct {
	to string
	api.Expr
}

// flows are all that the chapter asks something of.
func flows(p api.Program) (l []flow) {
	add := func(to string, parts []api.Expr, i int) {
		if i < len(parts) {
			l = append(l, flow{to, parts[i]})
		}
	}
	for _, f := range append([]api.Func{{Body: p.Main}}, p.Funcs...) {
		stmts, exprs := flat(f.Body)
		for _, s := range stmts {
			name := map[int]string{api.Assign: s.Name, api.Return: f.Name}[s.Op]
			if slices.Contains([]int{api.Assign, api.Put, api.Print, api.If, api.While, api.Return}, s.Op) {
				add(name, s.L, 0)
			}
			if s.Op == api.Put {
				add(s.Name, s.L, 1)
			}
		}
		for _, e := range exprs {
			switch e.Op {
			case api.Index:
				add("", e.L, 0)
			case api.Div, api.Mod:
				add("", e.L, 1)
			}
			i := slices.IndexFunc(p.Funcs, func(f api.Func) bool { return e.Op == api.Call && f.Name == e.Name })
			for j := 0; i >= 0 && j < len(p.Funcs[i].Params); j++ {
				add(p.Funcs[i].Params[j], e.L, j)
			}
		}
	}
	return l
}

// flat are all statements and expressions, none inside another.
func flat(l []api.Stmt) (stmts []api.Stmt, exprs []api.Expr) {
	stmts = slices.Clone(l)
	for i := 0; i < len(stmts); i++ {
		stmts = append(append(stmts, stmts[i].Body...), stmts[i].Else...)
		exprs = append(exprs, stmts[i].L...)
	}
	for i := 0; i < len(exprs); i++ {
		exprs = append(exprs, exprs[i].L...)
	}
	return stmts, exprs
}

// byFlows is Check, told apart from the program's own way.
func byFlows(p api.Program) api.Errno {
	for _, f := range flows(p) {
		if !great(f.to) && slices.ContainsFunc(seenIn(f.Expr), great) {
			return api.ErrLabel
		}
	}
	return api.OK
}

// drawn draws programs of anything with a fixed source. How much of them is
// secret, and is not right, is set for each anew: else hardly one were let
// through.
type drawn struct {
	r             *rand.Rand
	secret, wrong float64
}

func newDrawn(r *rand.Rand) drawn {
	return drawn{r, []float64{0, 0.02, 0.1, 0.3}[r.Intn(4)], []float64{0, 0.2}[r.Intn(2)]}
}

func (d drawn) name(l string) string {
	s := l[d.r.Intn(len(l)):][:1]
	switch x := d.r.Float64(); {
	case x < d.secret:
		return strings.ToUpper(s)
	case x > 1-d.wrong/10:
		return []string{"", "_", "0X", "[", "@", "\xc1A", "xX"}[d.r.Intn(7)]
	}
	return s
}

func (d drawn) count(n int) int {
	if d.r.Float64() < d.wrong {
		return d.r.Intn(4)
	}
	return n
}

func (d drawn) op(last int) int {
	if d.r.Float64() < d.wrong/4 {
		return wild()[d.r.Intn(len(wild()))]
	}
	return 1 + d.r.Intn(last)
}

func (d drawn) program() api.Program {
	p := api.Program{Main: d.stmts(3)}
	for range d.r.Intn(4) {
		f := api.Func{Name: d.name("fgh"), Body: d.stmts(2)}
		for range d.r.Intn(4) {
			f.Params = append(f.Params, d.name("xyz"))
		}
		p.Funcs = append(p.Funcs, f)
	}
	return p
}

func (d drawn) stmts(left int) (l []api.Stmt) {
	for range d.r.Intn(left + 2) {
		s := api.Stmt{Op: d.op(api.Return), Name: d.name("xyz")}
		n := map[int]int{api.Put: 2, api.Array: 0, api.Input: 0}
		parts, ok := n[s.Op]
		if !ok {
			parts = 1
		}
		s.L = d.exprs(d.count(parts), 3)
		if left > 0 && (s.Op == api.If || s.Op == api.While || d.r.Float64() < d.wrong) {
			s.Body = d.stmts(left - 1)
		}
		if left > 0 && (s.Op == api.If || d.r.Float64() < d.wrong) {
			s.Else = d.stmts(left - 1)
		}
		l = append(l, s)
	}
	return l
}

func (d drawn) exprs(n, left int) (l []api.Expr) {
	for range n {
		e := api.Expr{Op: d.op(api.Or), Name: d.name("xyz")}
		parts := max(0, min(e.Op/api.Index, 2))
		if left == 0 {
			e.Op, parts = 1+d.r.Intn(3), 0
		}
		if e.Op == api.Call {
			e.Name, parts = d.name("fgh"), d.r.Intn(4)
		}
		if left > 0 {
			e.L = d.exprs(d.count(parts), left-1)
		}
		l = append(l, e)
	}
	return l
}
