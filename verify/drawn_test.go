package verify

import (
	"math/rand"
	"slices"
	"strings"
	"testing"

	"evenhand/api"
	"evenhand/code"
	"evenhand/compile"
	"evenhand/parse"
)

// J1: all functions of up to five instructions out of these.
func TestJ1FewInstructions(t *testing.T) {
	var n tally
	for size := range 6 {
		l := []code.Ins{push(), ins(code.Return), ins(code.Store), ins(code.Sub), {}}
		for a := range size {
			l = append(l, jump(a), zero(a))
		}
		f := code.Fn{Vars: 1, L: make([]code.Ins, size)}
		fill(f.L, l, func() { n.both(t, fns(f)) })
	}
	n.enough(t, 20000)
}

// fill goes through all that a row may be of these, and tells each time.
func fill(row, l []code.Ins, full func()) {
	if len(row) == 0 {
		full()
		return
	}
	for _, in := range l {
		row[0] = in
		fill(row[1:], l, full)
	}
}

// J1: all mains of up to three instructions of all ops, with a few A and N; the
// functions that they may call have 0, 1 and 2 Params.
func TestJ1EachOfAFew(t *testing.T) {
	var n tally
	var l []code.Ins
	for op := 0; op <= 26; op++ {
		l = append(l, ins(op), ins(op, 1, 1), ins(op, 2, 1))
	}
	for size := range 4 {
		c := with(append(make([]code.Ins, size), end()...))
		c.Fns = c.Fns[:4]
		fill(c.Fns[0].L[:size], l, func() { n.both(t, c) })
	}
	n.enough(t, 20000)
}

// some draws instructions, with a fixed source: most may be at the depth at which
// they stand, if nothing goes on elsewhere.
func some(r *rand.Rand, size int) (l []code.Ins) {
	depth := 0
	all := kinds()
	for len(l) < size {
		k := all[r.Intn(len(all))]
		if k.takes > depth && r.Intn(50) > 0 || k.op == code.Return && r.Intn(3) > 0 {
			continue
		}
		in := ins(k.op, r.Intn(3), r.Intn(2))
		switch k.op {
		case code.Jump, code.Zero:
			in.A = r.Intn(size + 2)
		case code.Array:
			in = ins(k.op, r.Intn(2), 1+r.Intn(4096))
		case code.Get, code.Set:
			in.A = r.Intn(2)
		}
		l = append(l, in)
		depth = max(0, depth-k.takes) + k.leaves
	}
	return append(l, end()...)
}

// J1: code of anything; that which is right goes no wrong way.
func TestJ1OfAnything(t *testing.T) {
	r := rand.New(rand.NewSource(10))
	var n tally
	for range 60000 {
		c := with(some(r, r.Intn(12)))
		at := 1 + r.Intn(9)
		c.Fns[at] = code.Fn{Params: c.Fns[at].Params, Vars: 8, Arrays: 2, L: some(r, r.Intn(6))}
		if r.Intn(3) == 0 {
			c.Fns[0].L[r.Intn(len(c.Fns[0].L))] = ins(code.Call, r.Intn(11))
		}
		n.both(t, c)
		if right(c) {
			walk(t, r, c.Fns[0], c.Fns)
			walk(t, r, c.Fns[at], c.Fns)
		}
	}
	n.enough(t, 10000)
}

// texts draws programs as texts, with a fixed source.
type texts struct{ *rand.Rand }

func (d texts) of(l ...string) string { return l[d.Intn(len(l))] }

func (d texts) program() string {
	s := ""
	for _, head := range []string{"func f() { ", "func g(x) { ", "func h(x, Y, z) { "} {
		s += head + d.block(2) + "} "
	}
	return s + d.block(3)
}

func (d texts) block(left int) string {
	s := "array a 3; array B 4096; "
	for range d.Intn(3 + 3*left) {
		s += d.statement(left)
	}
	return s
}

func (d texts) statement(left int) string {
	s := d.of("x = @; ", "Y = @; ", "a[@] = @; ", "B[@] = @; ", "array a 7; ", "input x; ", "input Y; ", "print @; ", "keep @; ", "return @; ")
	if left > 0 && d.Intn(3) == 0 {
		s = d.of("if @ { $ } ", "if @ { $ } else { $ } ", "while @ { $ } ", "while @ { } ", "if @ { } ")
	}
	for strings.Contains(s, "$") {
		s = strings.Replace(s, "$", d.block(left-1), 1)
	}
	return d.fill(s)
}

// fill has an expression in the place of each @.
func (d texts) fill(s string) string {
	for left := 12; strings.Contains(s, "@"); left-- {
		e := d.of("1", "x", "Y", "clock", "77")
		if left > 0 && d.Intn(2) == 0 {
			e = d.of("a[@]", "B[@]", "f()", "g(@)", "h(@, @, @)", "-(@)", "!(@)", "(@ + @)", "(@ - @)", "(@ * @)", "(@ / @)", "(@ % @)", "(@ < @)", "(@ == @)", "(@ & @)", "(@ | @)")
		}
		s = strings.Replace(s, "@", e, 1)
	}
	return s
}

func compiled(t *testing.T, s string) code.Code {
	t.Helper()
	p, at, err := parse.Parse([]byte(s))
	if err != api.OK {
		t.Fatalf("%.600q is no program: %d, %v", s, at, err)
	}
	c, err := compile.Compile(p)
	if err != api.OK {
		t.Fatalf("%.600q is no code: %v", s, err)
	}
	return c
}

// J1: what compile makes of programs is right.
func TestJ1Compiled(t *testing.T) {
	for _, s := range []string{
		"", "print 1 + 2;", "x = 1; while x < 10 { x = x + 1; }", "return 3; return 4;", "return 1; print clock;", "while 1 { return 2; }",
		"if x { } else { } if y { return 1; } else { return 2; }", "array a 4096; a[1] = a[2];", "input x; input X; keep X;", "while clock { while 1 { if x { } } }",
		"func f(a, b, c, d, e, f, g, h) { return f(h, g, f, e, d, c, b, a); } print f(1, 2, 3, 4, 5, 6, 7, 8);",
		"func f() { return g(f()); } func g(x) { if x { return f(); } }", "x = " + strings.Repeat("-", 61) + "y;",
		"print " + strings.Repeat("1 - (", 61) + "1" + strings.Repeat(")", 61) + ";", strings.Repeat("while x { ", 62) + "print 1; " + strings.Repeat("} ", 62),
	} {
		asks(t, compiled(t, s), true, s)
	}
	r := rand.New(rand.NewSource(100))
	long := 0
	for range 2000 {
		c := compiled(t, texts{r}.program())
		asks(t, c, true)
		if len(c.Fns[0].L) > 100 {
			long++
		}
		for _, f := range c.Fns {
			walk(t, r, f, c.Fns)
		}
	}
	if long < 300 {
		t.Errorf("%d alone are long", long)
	}
}

// J1: what compile makes of programs, with something of it changed.
func TestJ1Changed(t *testing.T) {
	r := rand.New(rand.NewSource(1000))
	var n tally
	for range 400 {
		was := compiled(t, texts{r}.program())
		for range 40 {
			c := copied(was)
			change(r, &c.Fns[r.Intn(len(c.Fns))])
			n.both(t, c)
		}
	}
	n.enough(t, 2000)
}

// change does one thing to a function: to an instruction, or to what it has.
func change(r *rand.Rand, f *code.Fn) {
	at := r.Intn(len(f.L))
	in := &f.L[at]
	switch r.Intn(8) {
	case 0:
		in.Op = r.Intn(27)
	case 1:
		in.A += r.Intn(7) - 3
	case 2:
		in.N += int64(r.Intn(7) - 3)
	case 3:
		f.L = slices.Delete(f.L, at, at+1)
	case 4:
		f.L = slices.Insert(f.L, at, *in)
	case 5:
		*in = []code.Ins{push(), ins(code.Return), ins(code.Print), ins(code.Add), jump(r.Intn(len(f.L))), zero(r.Intn(len(f.L)))}[r.Intn(6)]
	case 6:
		f.Params, f.Vars, f.Arrays = f.Params+r.Intn(3)-1, f.Vars+r.Intn(3)-1, f.Arrays+r.Intn(3)-1
	case 7:
		f.L = f.L[:at]
	}
}
