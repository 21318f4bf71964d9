package compile

import (
	"math"
	"math/rand"
	"testing"

	"evenhand/api"
	"evenhand/scope"
)

// I1: all texts of up to three of these statements, in main and in functions:
// what may be resolved is read back, all else is refused as chapter 6 says.
func TestI1FewStatements(t *testing.T) {
	l := []string{
		"", "x = a;", "input X;", "a[x] = 1;", "array a 1;", "array b 2;", "print x + b[a];", "x = f(x, 2);", "print f();", "return g(-b[0], clock);",
		"if y + 1 { array b 2; } else { f = g(1, 2); }", "while b[0] { x = y; }", "if x { }", "while !x { if x { } else { while X { } } }",
	}
	right := 0
	for _, a := range l {
		for _, b := range l {
			for _, c := range l {
				for _, s := range []string{
					a + b + c, "func f(p, q) { " + a + "} func g(p, Q) { } " + b + c, "func f() { } func g(x, y) { " + a + b + "} " + c,
					"func g(y, x) { " + a + "} func f(a, b) { " + b + c + "}",
				} {
					p := program(t, s)
					if _, err := scope.Resolve(p); err != api.OK {
						refuses(t, err, p, s)
						continue
					}
					isReadBack(t, p)
					right++
				}
			}
		}
	}
	if right < 1000 {
		t.Errorf("%d alone may be", right)
	}
}

// drawn draws programs that may be compiled, with a fixed source: in each
// function, and in main, some of the names are variables, and some are arrays.
type drawn struct {
	*rand.Rand
	params       []int // of each function
	vars, arrays []string
}

func some(r *rand.Rand) api.Program {
	d := &drawn{Rand: r}
	for range r.Intn(5) {
		d.params = append(d.params, r.Intn(9))
	}
	var p api.Program
	p.Main = d.function(0, 3).Body
	for i, n := range d.params {
		f := d.function(n, 2)
		f.Name = names("f", 5)[i]
		p.Funcs = append(p.Funcs, f)
	}
	return p
}

func (d *drawn) function(params, left int) api.Func {
	l := []string{"a", "B", "c", "D", "e", "F", "g", "H", "i", "J", "k", "f0", "f1", "L9_x"}
	d.Shuffle(len(l), func(i, j int) { l[i], l[j] = l[j], l[i] })
	most := params + 1 + d.Intn(len(l)-params-2)
	d.vars, d.arrays = l[:most], l[most:]
	f := api.Func{Params: l[:params:params]}
	for _, i := range d.Perm(len(d.arrays)) {
		f.Body = append(f.Body, api.Stmt{Op: api.Array, Name: d.arrays[i], N: 1 + d.Int63n(4096)})
	}
	f.Body = append(f.Body, d.stmts(left)...)
	d.Shuffle(len(f.Body), func(i, j int) { f.Body[i], f.Body[j] = f.Body[j], f.Body[i] })
	return f
}

func (d *drawn) of(l []string) string { return l[d.Intn(len(l))] }

func (d *drawn) stmts(left int) (l []api.Stmt) {
	for range d.Intn(3*left + 1) {
		s := api.Stmt{Op: 1 + d.Intn(9)}
		switch s.Op {
		case api.Assign, api.Input:
			s.Name = d.of(d.vars)
		case api.Put:
			s.Name = d.of(d.arrays)
		case api.Array:
			s.Name, s.N = d.of(d.arrays), 1+d.Int63n(4096)
		case api.If:
			s.Body, s.Else = d.stmts(left-1), d.stmts(left-1)
		case api.While:
			s.Body = d.stmts(left - 1)
		}
		s.L = d.exprs([]int{1: 1, 2: 2, 5: 1, 6: 1, 7: 1, 8: 1, 9: 1}[s.Op], 4)
		l = append(l, s)
	}
	return l
}

func (d *drawn) exprs(n, left int) (l []api.Expr) {
	for range n {
		l = append(l, d.expr(left))
	}
	return l
}

func (d *drawn) expr(left int) api.Expr {
	e := api.Expr{Op: 1 + d.Intn(16)}
	if left == 0 || e.Op == api.Call && len(d.params) == 0 {
		e.Op = 1 + d.Intn(3)
	}
	parts := min(e.Op/api.Index, 2) // none, one of Index to Not, then two
	switch e.Op {
	case api.Const:
		e.N = []int64{0, 1, d.Int63n(100), d.Int63(), math.MaxInt64}[d.Intn(5)]
	case api.Var:
		e.Name = d.of(d.vars)
	case api.Index:
		e.Name = d.of(d.arrays)
	case api.Call:
		i := d.Intn(len(d.params))
		e.Name, parts = names("f", 5)[i], d.params[i]
	case api.Neg, api.Not:
		parts = 1
	}
	e.L = d.exprs(parts, left-1)
	return e
}

// I1: programs of anything are read back.
func TestI1OfAnything(t *testing.T) {
	r := rand.New(rand.NewSource(9))
	long := 0
	for range 3000 {
		p := some(r)
		isReadBack(t, p)
		if c, _ := Compile(p); len(told(c)) > 1000 {
			long++
		}
	}
	if long < 500 {
		t.Errorf("%d alone are long", long)
	}
}
