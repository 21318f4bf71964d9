package parse

import (
	"bytes"
	"math"
	"math/rand"
	"strings"
	"testing"

	"evenhand/api"
	"evenhand/tree"
)

// D1: a text of no tokens is the program of nothing.
func TestD1Nothing(t *testing.T) {
	for _, s := range []string{"", " ", "\n\t\r ", "#", "# x = ;\n", "#\n# func\n"} {
		says(t, s, api.Program{})
	}
	if p, at, err := Parse(nil); at != 0 || err != api.OK || !tree.Equal(p, api.Program{}) {
		t.Errorf("nil: at %d, %v, %+v", at, err, p)
	}
}

// D1: each form of a function.
func TestD1Functions(t *testing.T) {
	body := []api.Stmt{do(api.Return, ref("a"))}
	for s, want := range map[string]api.Program{
		"func f() {}":              {Funcs: []api.Func{{Name: "f"}}},
		"func F(a) {}":             {Funcs: []api.Func{{Name: "F", Params: []string{"a"}}}},
		"func f(a, B) {}":          {Funcs: []api.Func{{Name: "f", Params: []string{"a", "B"}}}},
		"func f(a,a,a) {}":         {Funcs: []api.Func{{Name: "f", Params: []string{"a", "a", "a"}}}},
		"func f(){return a;}":      {Funcs: []api.Func{{Name: "f", Body: body}}},
		"func f(a){return a;}":     {Funcs: []api.Func{{Name: "f", Params: []string{"a"}, Body: body}}},
		"func f(){} func g(a){}":   {Funcs: []api.Func{{Name: "f"}, {Name: "g", Params: []string{"a"}}}},
		"func f(){} func f(){}":    {Funcs: []api.Func{{Name: "f"}, {Name: "f"}}},
		"func f(){} return a;":     {Funcs: []api.Func{{Name: "f"}}, Main: body},
		"func\nf # g\n(\n)\n{\n}":  {Funcs: []api.Func{{Name: "f"}}},
		"func f(clocks, if_) { }":  {Funcs: []api.Func{{Name: "f", Params: []string{"clocks", "if_"}}}},
		"func Func(){ return a; }": {Funcs: []api.Func{{Name: "Func", Body: body}}},
		"func f(){ input x; return a; } print 1; print 2;": {
			Funcs: []api.Func{{Name: "f", Body: []api.Stmt{{Op: api.Input, Name: "x"}, body[0]}}},
			Main:  []api.Stmt{do(api.Print, num(1)), do(api.Print, num(2))},
		},
	} {
		says(t, s, want)
	}
}

// D1: each form of a statement; with else, with one of nothing, without.
func TestD1Statements(t *testing.T) {
	one, two := []api.Stmt{do(api.Print, num(1))}, []api.Stmt{do(api.Keep, num(2)), do(api.Return, num(3))}
	x := ref("x")
	for s, want := range map[string]api.Program{
		"x = 1;":                          first(set("x", num(1))),
		"X=y;":                            first(set("X", ref("y"))),
		"a[1] = 2;":                       first(put("a", num(1), num(2))),
		"a[b[1]] = a[2];":                 first(put("a", index("b", num(1)), index("a", num(2)))),
		"array a 7;":                      first(api.Stmt{Op: api.Array, Name: "a", N: 7}),
		"input X;":                        first(api.Stmt{Op: api.Input, Name: "X"}),
		"print 1;":                        first(one...),
		"keep 2; return 3;":               first(two...),
		"if x {}":                         first(block(api.If, x, nil, nil)),
		"if x {} else {}":                 first(block(api.If, x, nil, nil)),
		"if x { print 1; }":               first(block(api.If, x, one, nil)),
		"if x { print 1; } else {}":       first(block(api.If, x, one, nil)),
		"if x {} else { print 1; }":       first(block(api.If, x, nil, one)),
		"if x {print 1;}print 1;":         first(block(api.If, x, one, nil), one[0]),
		"while x {}":                      first(block(api.While, x, nil, nil)),
		"while x { keep 2; return 3; }":   first(block(api.While, x, two, nil)),
		"while (x) {} while ((x)) {}":     first(block(api.While, x, nil, nil), block(api.While, x, nil, nil)),
		"while x {} print 1;":             first(block(api.While, x, nil, nil), one[0]),
		"if x {} if x {} else {print 1;}": first(block(api.If, x, nil, nil), block(api.If, x, nil, one)),
		"if x { keep 2; return 3; } else { print 1; }":     first(block(api.If, x, two, one)),
		"if x { if x { print 1; } } else { print 1; }":     first(block(api.If, x, []api.Stmt{block(api.If, x, one, nil)}, one)),
		"if x { if x {} else { print 1; } }":               first(block(api.If, x, []api.Stmt{block(api.If, x, nil, one)}, nil)),
		"if x { } else { if x {} else { print 1; } }":      first(block(api.If, x, nil, []api.Stmt{block(api.If, x, nil, one)})),
		"if x { while x { print 1; } } else {while x { }}": first(block(api.If, x, []api.Stmt{block(api.While, x, one, nil)}, []api.Stmt{block(api.While, x, nil, nil)})),
		"while x { if x { print 1; } print 1; }":           first(block(api.While, x, []api.Stmt{block(api.If, x, one, nil), one[0]}, nil)),
		"input x; input y; array x 1; array x 2;":          first(api.Stmt{Op: api.Input, Name: "x"}, api.Stmt{Op: api.Input, Name: "y"}, api.Stmt{Op: api.Array, Name: "x", N: 1}, api.Stmt{Op: api.Array, Name: "x", N: 2}),
	} {
		says(t, s, want)
		says(t, "func f(){"+s+"}", api.Program{Funcs: []api.Func{{Name: "f", Body: want.Main}}})
		says(t, "while 1 {"+s+"}"+s, first(append([]api.Stmt{block(api.While, num(1), want.Main, nil)}, want.Main...)...))
	}
}

// D1: each form of an expression, in each place where one may stand.
func TestD1Expressions(t *testing.T) {
	for s, e := range map[string]api.Expr{
		"7":                     num(7),
		"x":                     ref("x"),
		"clock":                 of(api.Clock),
		"(7)":                   num(7),
		"((x))":                 ref("x"),
		"a[1]":                  index("a", num(1)),
		"a[b[c]]":               index("a", index("b", ref("c"))),
		"a[(1)]":                index("a", num(1)),
		"a[1 + 2]":              index("a", of(api.Add, num(1), num(2))),
		"f()":                   call("f"),
		"f(1)":                  call("f", num(1)),
		"f(1, x, clock)":        call("f", num(1), ref("x"), of(api.Clock)),
		"f(g(), h(1), a[2])":    call("f", call("g"), call("h", num(1)), index("a", num(2))),
		"f((1), (2 | 3), 4&5)":  call("f", num(1), of(api.Or, num(2), num(3)), of(api.And, num(4), num(5))),
		"-1":                    of(api.Neg, num(1)),
		"!x":                    of(api.Not, ref("x")),
		"--1":                   of(api.Neg, of(api.Neg, num(1))),
		"!!1":                   of(api.Not, of(api.Not, num(1))),
		"-!-clock":              of(api.Neg, of(api.Not, of(api.Neg, of(api.Clock)))),
		"-a[1]":                 of(api.Neg, index("a", num(1))),
		"!f(1)":                 of(api.Not, call("f", num(1))),
		"-(1 + 2)":              of(api.Neg, of(api.Add, num(1), num(2))),
		"-(-1)":                 of(api.Neg, of(api.Neg, num(1))),
		"a [ 1 ]":               index("a", num(1)),
		"f ( )":                 call("f"),
		"f(-1, !2)":             call("f", of(api.Neg, num(1)), of(api.Not, num(2))),
		"1 - -1":                of(api.Sub, num(1), of(api.Neg, num(1))),
		"1--1":                  of(api.Sub, num(1), of(api.Neg, num(1))),
		"1 - !-1":               of(api.Sub, num(1), of(api.Not, of(api.Neg, num(1)))),
		"a[1] + f(2)":           of(api.Add, index("a", num(1)), call("f", num(2))),
		"a[1 < 2] < 3":          of(api.Less, index("a", of(api.Less, num(1), num(2))), num(3)),
		"1 - (2 - 3)":           of(api.Sub, num(1), of(api.Sub, num(2), num(3))),
		"(1 | 2) & 3":           of(api.And, of(api.Or, num(1), num(2)), num(3)),
		"(a == b) == (c < d)":   of(api.Same, of(api.Same, ref("a"), ref("b")), of(api.Less, ref("c"), ref("d"))),
		"a == b < c == d":       of(api.Same, of(api.Less, of(api.Same, ref("a"), ref("b")), ref("c")), ref("d")),
		"1 % 2 * 3 / 4":         of(api.Div, of(api.Mul, of(api.Mod, num(1), num(2)), num(3)), num(4)),
		"1|2&3==4+5*6":          of(api.Or, num(1), of(api.And, num(2), of(api.Same, num(3), of(api.Add, num(4), of(api.Mul, num(5), num(6)))))),
		"1*2+3<4&5|6":           of(api.Or, of(api.And, of(api.Less, of(api.Add, of(api.Mul, num(1), num(2)), num(3)), num(4)), num(5)), num(6)),
		"9223372036854775807":   num(math.MaxInt64),
		"-9223372036854775807":  of(api.Neg, num(math.MaxInt64)),
		"Print + Else * While_": of(api.Add, ref("Print"), of(api.Mul, ref("Else"), ref("While_"))),
	} {
		for text, want := range everywhere(s, e) {
			says(t, text, want)
		}
	}
}

// everywhere is an expression in each place where one may stand.
func everywhere(s string, e api.Expr) map[string]api.Program {
	return map[string]api.Program{
		"x = " + s + ";":               first(set("x", e)),
		"x[" + s + "] = 1;":            first(put("x", e, num(1))),
		"x[1] = " + s + ";":            first(put("x", num(1), e)),
		"print " + s + ";":             first(do(api.Print, e)),
		"keep " + s + ";":              first(do(api.Keep, e)),
		"return " + s + ";":            first(do(api.Return, e)),
		"if " + s + " {}":              first(block(api.If, e, nil, nil)),
		"while " + s + "{}":            first(block(api.While, e, nil, nil)),
		"print a[" + s + "];":          first(do(api.Print, index("a", e))),
		"print f(1, " + s + ",2);":     first(do(api.Print, call("f", num(1), e, num(2)))),
		"print -(" + s + ");":          first(do(api.Print, of(api.Neg, e))),
		"print (" + s + ") + 1;":       first(do(api.Print, of(api.Add, e, num(1)))),
		"print 1 * (" + s + ");":       first(do(api.Print, of(api.Mul, num(1), e))),
		"func f() { keep " + s + "; }": {Funcs: []api.Func{{Name: "f", Body: []api.Stmt{do(api.Keep, e)}}}},
	}
}

// D1: of each two operations the one that binds more strongly is first, or the
// left one; those of one are ahead of all of them.
func TestD1EachTwoOperations(t *testing.T) {
	for _, l := range twos() {
		says(t, "x = -a"+l+"!b;", first(set("x", of(opOf(l), of(api.Neg, ref("a")), of(api.Not, ref("b"))))))
		says(t, "x = !a"+l+"-b;", first(set("x", of(opOf(l), of(api.Not, ref("a")), of(api.Neg, ref("b"))))))
		for _, r := range twos() {
			left := of(opOf(r), of(opOf(l), ref("a"), ref("b")), ref("c"))
			right := of(opOf(l), ref("a"), of(opOf(r), ref("b"), ref("c")))
			want := left
			if strength(r) > strength(l) {
				want = right
			}
			says(t, "x = a"+l+"b"+r+"c;", first(set("x", want)))
			says(t, "x = (a"+l+"b)"+r+"c;", first(set("x", left)))
			says(t, "x = a"+l+"(b"+r+"c);", first(set("x", right)))
		}
	}
}

// split reads operations from the top: the last of those that bind least
// strongly is what an expression is, and parts it.
func split(l []api.Expr, marks []string) api.Expr {
	if len(marks) == 0 {
		return l[0]
	}
	at := 0
	for i, m := range marks {
		if strength(m) <= strength(marks[at]) {
			at = i
		}
	}
	return of(opOf(marks[at]), split(l[:at+1], marks[:at]), split(l[at+1:], marks[at+1:]))
}

// D1: many operations one behind the other.
func TestD1ManyOperations(t *testing.T) {
	r := rand.New(rand.NewSource(4))
	for range 5000 {
		s, l, marks := "1", []api.Expr{num(1)}, []string{}
		for i := range r.Intn(40) {
			m := twos()[r.Intn(9)]
			s, l, marks = s+m+decimal(int64(i)), append(l, num(int64(i))), append(marks, m)
		}
		says(t, "x="+s+";", first(set("x", split(l, marks))))
	}
}

// D1: programs of anything, written with brackets that must be and some that
// need not be, are what they were; and right.
func TestD1ManyPrograms(t *testing.T) {
	r := rand.New(rand.NewSource(5))
	gaps := []string{" ", "\n", "\t ", " # x = ;}\n", "\r\n"}
	for range 2000 {
		p, w := some(r), writer{r: r}
		w.program(p)
		s, _ := write(w.list, gaps[r.Intn(len(gaps))])
		says(t, s, p)
		right(t, s)
	}
}

// D1: what stands right behind another without a gap, where it may.
func TestD1WithoutGaps(t *testing.T) {
	says(t, "func f(a,b){a[b]=-b;return a;}if!1{array c 4096;input d;}else{x=y==z;}while(1){keep f(1,2)-3;}", api.Program{
		Funcs: []api.Func{{Name: "f", Params: []string{"a", "b"}, Body: []api.Stmt{put("a", ref("b"), of(api.Neg, ref("b"))), do(api.Return, ref("a"))}}},
		Main: []api.Stmt{
			block(api.If, of(api.Not, num(1)), []api.Stmt{{Op: api.Array, Name: "c", N: 4096}, {Op: api.Input, Name: "d"}}, []api.Stmt{set("x", of(api.Same, ref("y"), ref("z")))}),
			block(api.While, num(1), []api.Stmt{do(api.Keep, of(api.Sub, call("f", num(1), num(2)), num(3)))}, nil),
		},
	})
}

// R1: the bytes stay as they were, and may be written over behind the call.
func TestD1BytesAreNotKept(t *testing.T) {
	const s = "func f(ab){x=cd;} y[10]=f(z); # y\n"
	b := append(make([]byte, 0, 100), s...)
	p, _, _ := Parse(b)
	if string(b) != s || bytes.IndexFunc(b[len(s):cap(b)], func(r rune) bool { return r != 0 }) >= 0 {
		t.Errorf("the bytes are %q", b[:cap(b)])
	}
	for i := range b {
		b[i] = '?'
	}
	want := api.Program{
		Funcs: []api.Func{{Name: "f", Params: []string{"ab"}, Body: []api.Stmt{set("x", ref("cd"))}}},
		Main:  []api.Stmt{put("y", num(10), call("f", ref("z")))},
	}
	if !tree.Equal(p, want) {
		t.Errorf("it became %+v", p)
	}
	for _, s := range []string{"x = 1 +;", "_", "x = 00;", "func f(" + strings.Repeat("a,", 8) + ") {}"} {
		b := []byte(s)
		if Parse(b); string(b) != s {
			t.Errorf("%q became %q", s, b)
		}
	}
}

// R1, R3: no two lists of one answer, or of two, share a place, be it one that
// they have room for only.
func TestD1ListsShareNothing(t *testing.T) {
	const s = "func f(a,b) { return a + b; } func g(a,b) { return a + b; } x[f(1,2)] = -f(1,2); if 1 { x = 1; x = 2; } else { x = 1; x = 2; }"
	found := places{}
	for range 2 {
		p, _, _ := Parse([]byte(s))
		for _, f := range p.Funcs {
			add(found, f.Params)
			found.stmts(f.Body)
		}
		add(found, p.Funcs)
		found.stmts(p.Main)
	}
	for at, n := range found {
		if n > 1 {
			t.Errorf("%d lists have %p", n, at)
		}
	}
	if len(found) < 64 {
		t.Errorf("%d places were found", len(found))
	}
}

// places counts how many lists have a place.
type places map[any]int

func add[T any](p places, l []T) {
	for i := range l[:cap(l)] {
		p[&l[:cap(l)][i]]++
	}
}

func (p places) stmts(l []api.Stmt) {
	add(p, l)
	for _, s := range l {
		p.exprs(s.L)
		p.stmts(s.Body)
		p.stmts(s.Else)
	}
}

func (p places) exprs(l []api.Expr) {
	add(p, l)
	for _, e := range l {
		p.exprs(e.L)
	}
}
