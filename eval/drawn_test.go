package eval

import (
	"math/rand"
	"slices"
	"testing"

	"evenhand/api"
	"evenhand/canon"
	"evenhand/scope"
	"evenhand/tree"
)

// M1: all texts of up to three of these statements, in main and in functions.
func TestM1FewStatements(t *testing.T) {
	l := []string{
		"", "x = a;", "input X; keep X;", "a[x] = 1;", "array a 2;", "array b 3;", "print x + b[a];", "x = f(x, 2);", "print f();", "return g(-b[0], clock);",
		"if y + 1 { array b 2; } else { f = g(1, 2); }", "while b[0] { x = y; }", "x = x + 1 / (x - 1);", "while x < 2 { if x { x = 9; } else { while !X { X = 4; } } x = x + 1; }", "print clock;",
	}
	few := []asked{{fuel: 400, quota: 9}, {fuel: 27, quota: 100, public: []int64{2}, secret: []int64{1}}, {fuel: 4000, quota: 4, oracle: []int64{1, 0}, given: true}}
	right := 0
	for _, a := range l {
		for _, b := range l {
			for _, c := range l {
				for _, s := range []string{
					a + b + c, "func f(p, q) { " + a + "} func g(p, Q) { } " + b + c, "func f() { } func g(x, y) { " + a + b + "} " + c,
					"func g(y, x) { " + a + "} func f(a, b) { " + b + c + "} y = g(f(1, 2), f(0, 0));",
				} {
					p := program(t, s)
					_, err := scope.Resolve(p)
					for _, in := range few {
						if out := in.isSame(t, p, s); err != api.OK && told(out) != told(api.Outcome{Err: err}) {
							t.Errorf("%q: %s, want %v", s, told(out), err)
						}
					}
					if err == api.OK {
						right++
					}
				}
			}
		}
	}
	if right < 1500 {
		t.Errorf("%d alone may be", right)
	}
}

// drawn draws programs, with a fixed source, such as go on for some time: in each
// function, and in main, some of the names are variables, and some are arrays.
type drawn struct {
	*rand.Rand
	params       []int // of each function
	vars, arrays []string
}

func some(r *rand.Rand) api.Program {
	d := &drawn{Rand: r}
	for range r.Intn(5) {
		d.params = append(d.params, r.Intn(9))
	}
	p := api.Program{Main: d.function(0, 3).Body}
	for i, n := range d.params {
		f := d.function(n, 2)
		f.Name = names("f", 5)[i]
		if d.Intn(6) == 0 { // it calls itself without end
			f.Body = append([]api.Stmt{do(api.Assign, d.vars[0], of(api.Call, f.Name, d.exprs(n, 1)...))}, f.Body...)
		}
		p.Funcs = append(p.Funcs, f)
	}
	return p
}

func (d *drawn) function(params, left int) api.Func {
	l := []string{"a", "B", "c", "D", "e", "F", "g", "H", "i", "J", "k", "f0", "f1", "L9_x"}
	d.Shuffle(len(l), func(i, j int) { l[i], l[j] = l[j], l[i] })
	most := params + 1 + d.Intn(len(l)-params-2)
	d.vars, d.arrays = l[:most], l[most:]
	f := api.Func{Params: l[:params:params]}
	for _, name := range d.arrays[:min(len(d.arrays), 3)] {
		f.Body = append(f.Body, api.Stmt{Op: api.Array, Name: name, N: d.size()})
	}
	for _, name := range d.arrays[min(len(d.arrays), 3):] { // these are not there, but known
		f.Body = append(f.Body, api.Stmt{Op: api.If, L: []api.Expr{number(0)}, Body: []api.Stmt{{Op: api.Array, Name: name, N: d.size()}}})
	}
	if len(d.arrays) > 3 && d.Intn(4) > 0 {
		d.arrays = d.arrays[:3]
	}
	f.Body = append(f.Body, d.stmts(left)...)
	return f
}

// size is that of an array: few are large.
func (d *drawn) size() int64 {
	if d.Intn(40) == 0 {
		return 1 + d.Int63n(4096)
	}
	return 3 + d.Int63n(6)
}

func (d *drawn) of(l []string) string { return l[d.Intn(len(l))] }

func (d *drawn) stmts(left int) (l []api.Stmt) {
	for range d.Intn(3*left + 1) {
		l = append(l, d.stmt(left)...)
	}
	return l
}

// stmt is a statement, and for some what makes it go on.
func (d *drawn) stmt(left int) []api.Stmt {
	s := api.Stmt{Op: 1 + d.Intn(9)}
	switch s.Op {
	case api.Assign, api.Input:
		s.Name = d.of(d.vars)
	case api.Put:
		s.Name = d.of(d.arrays)
		return []api.Stmt{do(api.Put, s.Name, d.place(), d.expr(3))}
	case api.Array:
		s.Name, s.N = d.of(d.arrays), d.size()
	case api.If:
		s.Body, s.Else = d.stmts(left-1), d.stmts(left-1)
	case api.While:
		return d.loop(left)
	case api.Return:
		if d.Intn(3) > 0 { // else little comes behind it
			s.Op = api.Keep
		}
	}
	s.L = d.exprs([]int{1: 1, 3: 0, 4: 0, 5: 1, 6: 1, 7: 1, 9: 1}[s.Op], 3)
	return []api.Stmt{s}
}

// loop is a While that is over after a few rounds, if nothing else sets what it
// counts by; or one of anything.
func (d *drawn) loop(left int) []api.Stmt {
	body := d.stmts(left - 1)
	if d.Intn(6) == 0 {
		return []api.Stmt{{Op: api.While, L: d.exprs(1, 3), Body: body}}
	}
	by := d.of(d.vars)
	body = append(body, do(api.Assign, by, of(api.Sub, "", ref(by), number(1))))
	return []api.Stmt{do(api.Assign, by, number(1+d.Int63n(4))), {Op: api.While, L: []api.Expr{of(api.Less, "", number(0), ref(by))}, Body: body}}
}

// place is one of an array, that mostly is there.
func (d *drawn) place() api.Expr {
	switch d.Intn(12) {
	case 0:
		return d.expr(2)
	case 1, 2:
		return of(api.And, "", d.expr(2), number(1+d.Int63n(2)))
	}
	return number(d.Int63n(3))
}

func (d *drawn) exprs(n, left int) (l []api.Expr) {
	for range n {
		l = append(l, d.expr(left))
	}
	return l
}

func (d *drawn) expr(left int) api.Expr {
	e := api.Expr{Op: 1 + d.Intn(16)}
	if left == 0 || e.Op == api.Call && (len(d.params) == 0 || d.Intn(2) == 0) {
		e.Op = 1 + d.Intn(3)
	}
	parts := min(e.Op/api.Index, 2) // none, one of Index to Not, then two
	switch e.Op {
	case api.Const:
		e.N = []int64{0, 1, d.Int63n(4), d.Int63n(100), d.Int63(), most}[d.Intn(6)]
	case api.Var:
		e.Name = d.of(d.vars)
	case api.Index:
		return of(api.Index, d.of(d.arrays), d.place())
	case api.Call:
		i := d.Intn(len(d.params))
		e.Name, parts = names("f", 5)[i], d.params[i]
	case api.Neg, api.Not:
		parts = 1
	case api.Div, api.Mod:
		if d.Intn(8) > 0 {
			return of(e.Op, "", d.expr(left-1), number(1+d.Int63n(9)))
		}
	}
	e.L = d.exprs(parts, left-1)
	return e
}

// anything is what a program may be handed.
func (d *drawn) anything() asked {
	var rows [3][]int64
	for i := range rows {
		for range d.Intn(6) {
			rows[i] = append(rows[i], []int64{0, 1, -1, d.Int63n(20), d.Int63() - d.Int63(), least}[d.Intn(6)])
		}
	}
	return asked{
		public: rows[0], secret: rows[1], oracle: rows[2], given: d.Intn(3) == 0,
		fuel:  []int64{d.Int63n(40), d.Int63n(300), d.Int63n(3000), 5000, 5000, 5000}[d.Intn(6)],
		quota: []int64{d.Int63n(30), d.Int63n(300), 1 << 20, 1 << 20}[d.Intn(4)],
	}
}

// M1: programs of anything, handed anything, do the same in both ways.
func TestM1OfAnything(t *testing.T) {
	r := rand.New(rand.NewSource(13))
	ended, long := map[api.Errno]int{}, 0
	for range 4000 {
		p := some(r)
		if tree.Right(p) != api.OK {
			t.Fatal(canon.Text(p))
		}
		d := &drawn{Rand: r}
		for range 4 {
			out := d.anything().isSame(t, p, canon.Text(p))
			ended[out.Err]++
			if len(out.Prints)+len(out.Keeps) > 3 {
				long++
			}
		}
	}
	for _, err := range []api.Errno{api.OK, api.ErrTrap, api.ErrFuel, api.ErrQuota, api.ErrDepth} {
		if ended[err] < 150 {
			t.Errorf("%v: %d alone", err, ended[err])
		}
	}
	if long < 1000 || ended[api.OK] < 4000 {
		t.Errorf("%d alone tell much, %v", long, ended)
	}
}

// M1: what is told does not hang on the clock, but where it is asked.
func TestM1NotByTheClock(t *testing.T) {
	r := rand.New(rand.NewSource(14))
	unasked, asking := 0, 0
	for range 3000 {
		p := some(r)
		a := (&drawn{Rand: r}).anything()
		a.given = false
		out := a.of(p)
		// An oracle that tells what the clock told changes nothing.
		b := a
		b.oracle, b.given = slices.Clone(out.Clocks), true
		if got := told(b.of(p)); got != told(out) {
			t.Errorf("%q: %s, want %s", canon.Text(p), got, told(out))
		}
		asking += min(len(out.Clocks), 1)
		if len(out.Clocks) > 0 {
			continue
		}
		unasked++
		for _, oracle := range [][]int64{nil, {7}, {-1, 5, 8}} {
			b.oracle = oracle
			if got := told(b.of(p)); got != told(out) {
				t.Errorf("%q: %v: %s, want %s", canon.Text(p), oracle, got, told(out))
			}
		}
	}
	if unasked < 500 || asking < 500 {
		t.Error(unasked, asking)
	}
}

// M1: with less fuel all goes the same way, as far as it goes.
func TestM1LessFuel(t *testing.T) {
	begins := func(l, of []int64) bool { return len(l) <= len(of) && slices.Equal(l, of[:len(l)]) }
	r := rand.New(rand.NewSource(15))
	for range 150 {
		p := some(r)
		a := (&drawn{Rand: r}).anything()
		a.fuel = 600
		all := a.of(p)
		for fuel := range all.Clock + 2 {
			a.fuel = fuel
			out := a.of(p)
			if fuel >= all.Clock && fuel <= 600 {
				if told(out) != told(all) {
					t.Errorf("%q: %d: %s, want %s", canon.Text(p), fuel, told(out), told(all))
				}
				continue
			}
			if fuel > 600 {
				continue
			}
			if out.Err != api.ErrFuel || out.Clock <= fuel || out.Clock > min(fuel+20, all.Clock) || !begins(out.Prints, all.Prints) || !begins(out.Keeps, all.Keeps) || !begins(out.Clocks, all.Clocks) {
				t.Errorf("%q: %d: %s of %s", canon.Text(p), fuel, told(out), told(all))
			}
		}
	}
}
