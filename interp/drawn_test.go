package interp

import (
	"fmt"
	"math/rand"
	"slices"
	"strings"
	"testing"

	"evenhand/api"
	"evenhand/code"
	"evenhand/compile"
	"evenhand/eval"
	"evenhand/parse"
	"evenhand/verify"
)

// moody is a tier that tells this and that, by a source of its own. It writes over what
// it was handed, and over what it told ahead of that.
type moody struct {
	*rand.Rand
	of    code.Code
	plain bool // tells the functions' own bodies, or none, alone
	last  []code.Ins
	log   []string
}

func newMoody(c code.Code, seed int64, plain bool) *moody {
	return &moody{Rand: rand.New(rand.NewSource(seed)), of: cloned(c), plain: plain}
}

func (m *moody) Enter(fn int, args []int64) ([]code.Ins, bool, int64) {
	m.log = append(m.log, fmt.Sprint(fn, args))
	clear(args)
	clear(m.last)
	m.last = m.body(fn)
	charge := []int64{0, 0, -1, least, m.Int63n(100), m.Int63n(100)}[m.Intn(6)]
	if m.Intn(200) == 0 {
		charge = []int64{5000, 1 << 40, most}[m.Intn(3)]
	}
	return m.last, m.Intn(2) == 0, charge
}

func (m *moody) body(fn int) []code.Ins {
	own := slices.Clone(m.of.Fns[fn].L)
	at := m.Intn(len(own))
	kind := m.Intn(8)
	if m.plain {
		kind %= 4
	}
	switch kind {
	case 0:
		return nil
	case 4: // another one's
		return slices.Clone(m.of.Fns[m.Intn(len(m.of.Fns))].L)
	case 5: // changed, it may well be wrong
		own[at] = code.Ins{Op: m.Intn(27), A: m.Intn(len(own)), N: m.Int63n(3)}
	case 6:
		own = slices.Delete(own, at, at+1)
	case 7:
		return written(fmt.Sprint("push ", m.Intn(5), ", return"))
	}
	return own
}

// texts draws programs as texts.
type texts struct{ *rand.Rand }

func (d texts) of(l ...string) string { return l[d.Intn(len(l))] }

func (d texts) program() string {
	s := ""
	for i, head := range []string{"func f() { ", "func g(x) { ", "func h(x, Y, z) { ", "func i(y, x) { "} {
		s += head
		if d.Intn(16) == 0 { // it calls itself without end
			s += "x = " + d.fill([]string{"f()", "g(@)", "h(@, @, @)", "i(@, @)"}[i], 0) + "; "
		}
		s += d.block(1, i) + "return " + d.fill("@", i) + "; } "
	}
	return s + d.block(3, 4)
}

// block is statements such as may call the first so many functions, and few others.
func (d texts) block(left, calls int) string {
	s := "array a 4; array B 3; "
	for range 1 + d.Intn(2+2*max(left, 0)) {
		s += d.statement(left, calls)
	}
	return s
}

func (d texts) statement(left, calls int) string {
	s := d.of("x = @; ", "Y = @; ", "z = @; ", "a[@ & 3] = @; ", "B[@ & 2] = @; ", "input x; ", "input Y; ", "print @; ", "print @; ", "keep @; ", "print clock; ")
	switch {
	case d.Intn(60) == 0:
		s = d.of("array a 7; ", "array B 4096; ", "return @; ", "a[@] = @; ", "print B[@]; ", "while @ { $ } ")
	case left > 0 && d.Intn(3) == 0:
		s = d.of("if @ { $ } ", "if @ { $ } else { $ } ", "if @ { } ", "v@ = 3; while 0 < v@ { $ v@ = v@ - 1; } ")
		s = strings.ReplaceAll(s, "v@", "v"+fmt.Sprint(left))
	}
	for strings.Contains(s, "$") {
		s = strings.Replace(s, "$", d.block(left-1, calls), 1)
	}
	return d.fill(s, calls)
}

// fill has an expression in the place of each @.
func (d texts) fill(s string, calls int) string {
	for left := 9; strings.Contains(s, "@"); left-- {
		e := d.of("1", "x", "Y", "z", "clock", "77")
		if left > 0 && d.Intn(2) == 0 {
			e = d.of("a[@ & 3]", "B[@ & 2]", "f()", "g(@)", "h(@, @, @)", "i(@, @)", "-(@)", "!(@)", "(@ + @)", "(@ - @)", "(@ * @)", "(@ / (@ | 1))", "(@ % (@ | 1))", "(@ < @)", "(@ == @)", "(@ & @)", "(@ | @)")
			if i := strings.Index("fghi", e[:1]); i >= calls && d.Intn(12) > 0 {
				e = "2"
			}
		}
		if d.Intn(150) == 0 {
			e = d.of("(@ / @)", "(@ % @)", "a[@]")
		}
		s = strings.Replace(s, "@", e, 1)
	}
	return s
}

// compiled is what a text says, as a program and as code.
func compiled(t *testing.T, s string) (api.Program, code.Code) {
	t.Helper()
	p, at, err := parse.Parse([]byte(s))
	if err != api.OK {
		t.Fatalf("%.600q is no program: %d, %v", s, at, err)
	}
	c, err := compile.Compile(p)
	if err != api.OK {
		t.Fatalf("%.600q is no code: %v", s, err)
	}
	return p, c
}

// anything is what code may be handed.
func anything(r *rand.Rand) asked {
	var rows [2][]int64
	for i := range rows {
		for range r.Intn(6) {
			rows[i] = append(rows[i], []int64{0, 1, -1, r.Int63n(20), r.Int63() - r.Int63(), least}[r.Intn(6)])
		}
	}
	return asked{
		public: rows[0], secret: rows[1],
		fuel:  []int64{r.Int63n(40), r.Int63n(300), r.Int63n(3000), 5000, 5000, 5000}[r.Intn(6)],
		quota: []int64{r.Int63n(30), r.Int63n(300), 1 << 20, 1 << 20}[r.Intn(4)],
	}
}

// tally counts how code ended.
type tally map[api.Errno]int

func (n tally) enough(t *testing.T, least int, l ...api.Errno) {
	t.Helper()
	for _, err := range l {
		if n[err] < least {
			t.Errorf("%v: %v", err, n)
		}
	}
}

// N1, N2: what compile makes of programs does the same in both ways, without a tier and
// with one.
func TestN2Compiled(t *testing.T) {
	r := rand.New(rand.NewSource(14))
	n := tally{}
	for range 1500 {
		_, c := compiled(t, texts{r}.program())
		a := anything(r)
		n[a.isSame(t, c, func() *moody { return nil }).Err]++
		for range 3 {
			seed := r.Int63()
			n[anything(r).isSame(t, c, func() *moody { return newMoody(c, seed, seed%2 == 0) }).Err]++
		}
	}
	n.enough(t, 100, api.OK, api.ErrTrap, api.ErrFuel, api.ErrQuota, api.ErrDepth)
}

// some draws instructions: most may be at the depth at which they stand, if nothing
// goes on elsewhere.
func some(r *rand.Rand, size int) (l []code.Ins) {
	depth := 0
	for len(l) < size {
		op := 1 + r.Intn(25)
		in := code.Ins{Op: op, A: r.Intn(3), N: r.Int63n(2)}
		takes := code.Takes(op)
		switch op {
		case code.Call:
			in.A = 1 + r.Intn(3)
			takes = in.A - 1
		case code.Jump, code.Zero:
			in.A = r.Intn(size + 2)
		case code.Array:
			in.A, in.N = r.Intn(2), 1+r.Int63n(5)
		case code.Get, code.Set:
			in.A = r.Intn(2)
		case code.Push:
			in.N = r.Int63n(6) - 1
		}
		if takes > depth && r.Intn(60) > 0 || op == code.Return && r.Intn(3) > 0 {
			continue
		}
		l = append(l, in)
		depth = max(0, depth-takes) + code.Leaves(op)
	}
	return append(l, written("push 0, return")...)
}

// N1, N2: code of anything, such as no program is compiled to, likewise.
func TestN2OfAnything(t *testing.T) {
	r := rand.New(rand.NewSource(15))
	n := tally{}
	for range 40000 {
		c := code.Code{Fns: []code.Fn{{Vars: 3, Arrays: 2, L: some(r, r.Intn(14))}}}
		for i := range 3 {
			c.Fns = append(c.Fns, code.Fn{Params: i, Vars: 3, Arrays: 2, L: some(r, r.Intn(10))})
		}
		if verify.Code(c) != api.OK && r.Intn(10) > 0 {
			continue
		}
		a := anything(r)
		a.fuel = min(a.fuel, 1000)
		n[a.isSame(t, c, func() *moody { return nil }).Err]++
		seed := r.Int63()
		n[a.isSame(t, c, func() *moody { return newMoody(c, seed, false) }).Err]++
	}
	n.enough(t, 70, api.OK, api.ErrTrap, api.ErrFuel, api.ErrDepth, api.ErrCode, api.ErrQuota)
}

// N2: without a tier, code does what its program's tree says, and costs what that does;
// with one that tells the same bodies, fast or not, the clock alone is another.
func TestN2AsTheTree(t *testing.T) {
	r := rand.New(rand.NewSource(16))
	n, same := tally{}, 0
	for range 2500 {
		s := texts{r}.program()
		p, c := compiled(t, s)
		a := anything(r)
		in := api.Inputs{Public: a.public, Secret: a.secret}
		out, want := a.of(c), eval.Eval(p, in, a.fuel, a.quota, nil, false)
		if told(out) != told(want) {
			t.Errorf("%.2000q: fuel %d, quota %d, %v: %s, want %s", s, a.fuel, a.quota, in, told(out), told(want))
		}
		n[out.Err]++
		a.tier, a.fuel = newMoody(c, r.Int63(), true), 20000
		if out = a.of(c); out.Err == api.ErrFuel {
			continue
		}
		same++
		want = eval.Eval(p, in, most, a.quota, out.Clocks, true)
		want.Clock = out.Clock
		if told(out) != told(want) {
			t.Errorf("%.2000q: quota %d, %v: %s, want %s", s, a.quota, in, told(out), told(want))
		}
	}
	n.enough(t, 100, api.OK, api.ErrTrap, api.ErrFuel, api.ErrQuota, api.ErrDepth)
	if same < 1000 {
		t.Errorf("%d alone ended", same)
	}
}

// N2: with less fuel all goes the same way, as far as it goes; the clock never stands
// more than one charge above the fuel.
func TestN2LessFuel(t *testing.T) {
	begins := func(l, of []int64) bool { return len(l) <= len(of) && slices.Equal(l, of[:len(l)]) }
	r := rand.New(rand.NewSource(17))
	for range 120 {
		s := texts{r}.program()
		_, c := compiled(t, s)
		a, seed := anything(r), r.Int63()
		a.fuel = 600
		a.tier = newMoody(c, seed, true)
		all := a.of(c)
		for fuel := range min(all.Clock, 600) + 2 {
			a.fuel = fuel
			a.tier = newMoody(c, seed, true)
			out := a.of(c)
			if fuel >= all.Clock && fuel <= 600 {
				if told(out) != told(all) {
					t.Errorf("%q: %d: %s, want %s", s, fuel, told(out), told(all))
				}
				continue
			}
			if fuel > 600 {
				continue
			}
			if out.Err != api.ErrFuel || out.Clock <= fuel || out.Clock > all.Clock || !begins(out.Prints, all.Prints) || !begins(out.Keeps, all.Keeps) || !begins(out.Clocks, all.Clocks) {
				t.Errorf("%q: %d: %s of %s", s, fuel, told(out), told(all))
			}
		}
	}
}
