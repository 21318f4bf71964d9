package scope

import (
	"math/rand"
	"reflect"
	"slices"
	"strings"
	"testing"

	"evenhand/api"
)

// F1: a program of nothing, main alone, and functions of nothing.
func TestF1OfNothing(t *testing.T) {
	for _, p := range []api.Program{{}, {Main: []api.Stmt{}, Funcs: []api.Func{}}} {
		l, err := Resolve(p)
		if err != api.OK || len(l) != 1 || l[0].Name != "" || l[0].Params != 0 || len(l[0].Vars)+len(l[0].Arrays) != 0 {
			t.Errorf("%+v, %v", l, err)
		}
	}
	resolves(t, "", "/0: ; ")
	resolves(t, "print 1; keep clock; return 2; if 3 { } else { } while 4 { }", "/0: ; ")
	resolves(t, "func f() { }", "/0: ;  | f/0: ; ")
	resolves(t, "func F(a) { } func g() { return 1; }", "/0: ;  | F/1: a;  | g/0: ; ")
}

// F1: main is first, then each function in order, whatever they are called.
func TestF1Functions(t *testing.T) {
	resolves(t, "func z(b, A) { c = A; } func a() { d = 1; } func M(c) { array e 1; } x = 1;", "/0: x;  | z/2: b A c;  | a/0: d;  | M/1: c; e")
	resolves(t, "func f(a, b, c, d, e, f, g, h) { i = h; return a; }", "/0: ;  | f/8: a b c d e f g h i; ")
	resolves(t, "func f(a, b) { return b + a; }", "/0: ;  | f/2: a b; ")
	l, text, want := names("f", 32), "", "/0: x; "
	for _, name := range l {
		text += "func " + name + "(p) { v" + name + " = p; } "
		want += " | " + name + "/1: p v" + name + "; "
	}
	resolves(t, text+"x = 1;", want)
}

// F1: a variable, and an array, in each place where one may stand, that is @.
func TestF1EachPlace(t *testing.T) {
	const funcs, behind = "func f(p) { } func g(p, q, r) { } ", " | f/1: p;  | g/3: p q r; "
	for _, place := range []string{
		"x = @;", "b[@] = 1;", "b[1] = @;", "print @;", "keep @;", "return @;", "if @ { }", "while @ { }",
		"if 1 { print @; }", "if 1 { } else { print @; }", "if 1 { print 2; } else { keep 3; print @; }", "while 1 { print @; }",
		"while 1 { if 2 { } else { while 3 { if 4 { print @; } } } }", "print 1; print @;", "print -@;", "print !@;", "print b[@];", "print b[-b[@]];",
		"print f(@);", "print g(@, 1, 2);", "print g(1, @, 2);", "print g(1, 2, f(b[@]));", "print @ + 1;", "print 1 - @;", "print 1 * @;", "print @ / 2;", "print 1 % (2 % @);",
		"print @ < 1;", "print 1 == @;", "print @ & 1;", "print 1 | !(2 & -@);",
	} {
		vars := "v"
		if strings.HasPrefix(place, "x") {
			vars = "x v"
		}
		with := func(s string) string { return "array b 1; " + strings.Replace(place, "@", s, 1) }
		resolves(t, funcs+with("v"), "/0: "+vars+"; b"+behind)
		resolves(t, funcs+"array a 2; "+with("a[v]"), "/0: "+vars+"; a b"+behind)
		resolves(t, funcs+"func h(s) { "+with("c[v]")+" array c 3; } print w;", "/0: w; "+behind+" | h/1: s "+vars+"; b c")
	}
}

// F1: what sets a variable, or makes an array, in each block, that has @.
func TestF1EachStatement(t *testing.T) {
	for _, x := range []struct{ s, vars, arrays string }{
		{"v = 1;", "v", ""},
		{"input V;", "V", ""},
		{"array a 1;", "", "a"},
		{"array A 4096;", "", "A"},
		{"array a 1; a[0] = 1;", "", "a"},
		{"a[v] = w; array a 1;", "v w", "a"},
		{"array a 1; array b 2;", "", "a b"},
		{"array a 1; array a 2;", "", "a"},
		{"v = v; input v; print v;", "v", ""},
		{"array v 1; v[v[0]] = v[v[1]];", "", "v"},
	} {
		own := x.vars + "; " + x.arrays
		further := strings.TrimSpace("p "+x.vars) + "; " + x.arrays
		for _, block := range []string{"@", "if 1 { @ }", "if 1 { } else { @ }", "while 1 { @ }", "while 1 { if 2 { keep 3; } else { while 4 { @ } } keep 5; }"} {
			s := strings.Replace(block, "@", x.s, 1)
			resolves(t, s, "/0: "+own)
			resolves(t, "func f() { "+s+" }", "/0: ;  | f/0: "+own)
			resolves(t, "func f(p) { "+s+" } "+s, "/0: "+own+" | f/1: "+further)
		}
	}
}

// F1: each name once, where it stands first in the text; Assign's ahead of its
// expression, Put's ahead of both, Index's ahead of its part.
func TestF1Order(t *testing.T) {
	for s, want := range map[string]string{
		"z = y; y = x; x = z;":                                                       "z y x; ",
		"x = x + y + x;":                                                             "x y; ",
		"b = a; a = b; input a; input c;":                                            "b a c; ",
		"input z; print y; keep x; return w;":                                        "z y x w; ",
		"print c - (b * (a - c)); print a;":                                          "c b a; ",
		"a[b[i]] = c[j]; array c 1; array b 1; array a 1;":                           "i j; a b c",
		"array c 1; array b 1; a[0] = b[0]; array a 1;":                              "; c b a",
		"print a[b[c[x]]]; array c 1; array b 1; array a 1;":                         "x; a b c",
		"print b[y] + a[x]; array a 1; array b 1;":                                   "y x; b a",
		"a[z] = y + x; array a 1;":                                                   "z y x; a",
		"if d { c = 1; } else { b = c; } a = d;":                                     "d c b a; ",
		"while c { b = d; } a = b;":                                                  "c b d a; ",
		"if a { if b { print c; } else { print d; } print e; } else { f = 1; }":      "a b c d e f; ",
		"if x { array b 1; } else { array a 1; } array c 1; a[0] = 1;":               "x; b a c",
		"print w & v[u] == -t < !s; array v 1;":                                      "w u t s; v",
		"B = b; b = B; A = a;":                                                       "B b A a; ",
		"while x { y = z; } while z { y = w; if v { } } x = 1;":                      "x y z w v; ",
		"i = 0; array a 9; while i < n { a[i] = i * i; i = i + 1; } print a[n - k];": "i n k; a",
	} {
		resolves(t, s, "/0: "+want)
	}
	resolves(t, "func f(a, b, c) { } print f(z, y, f(x, z, w));", "/0: z y x w;  | f/3: a b c; ")
	resolves(t, "func f(c, a) { b = c; a = d; c = e; }", "/0: ;  | f/2: c a b d e; ")
	resolves(t, "func f(b, a) { print a + b; input a; }", "/0: ;  | f/2: b a; ")
}

// F1: a name is what it is in its own function alone; a function's is no
// variable's, and no array's.
func TestF1ApartFromOneAnother(t *testing.T) {
	resolves(t, "func f(a) { a = 1; } array a 1;", "/0: ; a | f/1: a; ")
	resolves(t, "func f() { array a 1; a[0] = b; } func g(b) { array b2 1; a = b; }", "/0: ;  | f/0: b; a | g/1: b a; b2")
	resolves(t, "func f(x) { print x; } func g(x) { keep x; } input x;", "/0: x;  | f/1: x;  | g/1: x; ")
	resolves(t, "func f(f) { return f; } f = f(f);", "/0: f;  | f/1: f; ")
	resolves(t, "func f() { array f 1; return f[f()]; } array f 2; print f[f()];", "/0: ; f | f/0: ; f")
	resolves(t, "func g(f) { array g 1; g[f] = g(f); } func f() { g = f(); }", "/0: ;  | g/1: f; g | f/0: g; ")
	resolves(t, "x = X; array a 1; array A 2; iff = func2;", "/0: x X iff func2; a A")
}

// F1: calls of as many parts as there are parameters, of a function that stands
// ahead, behind, or around.
func TestF1Calls(t *testing.T) {
	resolves(t, "func f() { return f(); }", "/0: ;  | f/0: ; ")
	resolves(t, "func f(a) { return f(f(a)); }", "/0: ;  | f/1: a; ")
	resolves(t, "func f() { return g(1); } func g(x) { return f(); } print f() + g(2);", "/0: ;  | f/0: ;  | g/1: x; ")
	resolves(t, "func f(a, b, c, d, e, f, g, h) { } print f(1, 2, 3, 4, 5, 6, 7, x);", "/0: x;  | f/8: a b c d e f g h; ")
	resolves(t, "func F(A) { } X = F(Y);", "/0: X Y;  | F/1: A; ")
	params, args := strings.Fields("a b c d e f g h"), strings.Fields("1 2 3 4 5 6 7 8")
	for n := range 9 {
		head := "func e() { } func f(" + strings.Join(params[:n], ", ") + ") { } func g(x) { } "
		for m := range 9 {
			s := head + "print 1 + -f(" + strings.Join(args[:m], ", ") + ");"
			if n != m {
				refuses(t, api.ErrName, s)
				continue
			}
			l, err := Resolve(program(t, s))
			if err != api.OK || len(l) != 4 || l[2].Params != n || !slices.Equal(l[2].Vars, params[:n]) {
				t.Errorf("%q: %q, %v", s, told(l), err)
			}
		}
	}
}

// F1: an array has its Array somewhere in its function: ahead of what asks for
// it, or behind that, or in another block.
func TestF1ArrayAnywhere(t *testing.T) {
	for _, s := range []string{
		"array a 1; a[0] = 1;", "a[0] = 1; array a 1;", "print a[0]; array a 1;", "array a 1; print a[0];", "array a 1;",
		"if 0 { array a 1; } a[0] = 1;", "a[0] = 1; if 1 { } else { array a 1; }", "while 0 { while 0 { array a 1; } } print a[1];",
		"if 0 { print a[0]; } else { array a 1; }", "while a[0] { array a 2; }", "array a 1; a[0] = 1; array a 2;", "return 1; a[0] = a[1]; array a 3;",
	} {
		resolves(t, s, "/0: ; a")
		resolves(t, "func f(x) { "+s+" }", "/0: ;  | f/1: x; a")
		resolves(t, "func f() { "+s+" } "+s, "/0: ; a | f/0: ; a")
	}
}

// F1: 64 variables and 64 arrays of each, parameters counted with the variables,
// and each name once.
func TestF1AsManyAsMayBe(t *testing.T) {
	v, a := names("v", 64), names("a", 64)
	text := each(v, "input @;") + each(a, "array @ 1;")
	want := strings.Join(v, " ") + "; " + strings.Join(a, " ")
	resolves(t, text, "/0: "+want)
	resolves(t, text+each(v, "@ = @ + 1; print @;")+each(a, "@[0] = @[1]; array @ 2;"), "/0: "+want)
	resolves(t, "func f() { "+text+" }", "/0: ;  | f/0: "+want)
	resolves(t, "func f("+strings.Join(v[:8], ", ")+") { "+each(v[8:], "@ = 1;")+each(a, "print @[0]; array @ 2;")+" } x = 1;", "/0: x;  | f/8: "+want)
	resolves(t, "func f("+strings.Join(v[:8], ", ")+") { "+text+" } "+text, "/0: "+want+" | f/8: "+want)
	p := program(t, text)
	for _, name := range names("f", 32) {
		p.Funcs = append(p.Funcs, api.Func{Name: name, Body: p.Main})
	}
	l, err := Resolve(p)
	if err != api.OK || len(l) != 33 {
		t.Fatalf("%d scopes, %v", len(l), err)
	}
	for i, s := range l {
		if !slices.Equal(s.Vars, v) || !slices.Equal(s.Arrays, a) {
			t.Errorf("%d: %+v", i, s)
		}
	}
}

// F1: names in as many levels as may be.
func TestF1Deep(t *testing.T) {
	for _, n := range []int{1, 2, 30, 62} {
		s := strings.Repeat("while w { ", n) + "print v;" + strings.Repeat(" } ", n)
		resolves(t, s, "/0: w v; ")
		s = strings.Repeat("if w { } else { ", n) + "array a 1;" + strings.Repeat(" a[0] = 1; } ", n)
		resolves(t, s, "/0: w; a")
		resolves(t, "array a 1; x = "+strings.Repeat("a[", n)+"y"+strings.Repeat("]", n)+";", "/0: x y; a")
		resolves(t, "func f(a) { } print "+strings.Repeat("-", n)+"y;", "/0: y;  | f/1: a; ")
	}
}

// F1: all texts of up to three of these statements, in main and in functions,
// against what their tokens say.
func TestF1FewStatements(t *testing.T) {
	l := []string{
		"", "x = a;", "input x;", "a[x] = 1;", "array a 1;", "array x 1;", "print x[a];", "print f(x);", "print f();", "keep g(a[0], y);",
		"if y { array a 2; } else { f = g(1, 2); }", "while a[0] { x = y; }",
	}
	right := 0
	for _, a := range l {
		for _, b := range l {
			for _, c := range l {
				for _, s := range []string{
					a + b + c, "func f() { " + a + "} " + b + c, "func f(x) { " + a + b + "} func g(a, x) { } " + c,
					"func g(y, x) { " + a + "} func f(a) { " + b + c + "}", "func f() { } func g(f, g) { " + a + "} " + b + c,
				} {
					if agrees(t, program(t, s)) == api.OK {
						right++
					}
				}
			}
		}
	}
	if right < 500 {
		t.Errorf("%d alone may be", right)
	}
}

// F1: programs of anything against what their tokens say.
func TestF1OfAnything(t *testing.T) {
	r := rand.New(rand.NewSource(6))
	count := map[api.Errno]int{}
	for range 6000 {
		count[agrees(t, some(r))]++
	}
	if count[api.OK] < 600 || count[api.ErrName] < 600 {
		t.Errorf("too few of a kind: %v", count)
	}
}

// F1, R1, R4: the program stays as it was, and is not kept; no list of an answer
// is another's; the same call has the same answer.
func TestF1LeavesAsItWas(t *testing.T) {
	const text = "func f(a, b) { array c 1; c[a] = b; d = f(1, 2); } func g(a) { } array e 2; x = e[y]; if x { y = z; }"
	p, q := program(t, text), program(t, text)
	l, err := Resolve(p)
	want := told(l)
	if err != api.OK || !reflect.DeepEqual(p, q) {
		t.Fatalf("%v, %+v", err, p)
	}
	p.Funcs[0].Params[0], p.Funcs[0].Name, p.Funcs[0].Body[1].Name = "m", "n", "o"
	p.Main[1].Name, p.Main[1].L[0].Name, p.Main[2].Body[0].L[0].Name = "m", "n", "o"
	if told(l) != want {
		t.Errorf("%q, was %q", told(l), want)
	}
	for i := range l {
		for _, s := range [][]string{l[i].Vars, l[i].Arrays} {
			for j := range s {
				s[j] = "w"
			}
			_ = append(s[:len(s):cap(s)], "w")
		}
	}
	for range 5 {
		if l, err := Resolve(q); err != api.OK || told(l) != want {
			t.Errorf("%q, %v, was %q", told(l), err, want)
		}
	}
	if !reflect.DeepEqual(q, program(t, text)) {
		t.Errorf("%+v", q)
	}
	grown, _ := Resolve(q)
	for i := range grown {
		_, _ = append(grown[i].Vars, "w"), append(grown[i].Arrays, "w")
	}
	if told(grown) != want || !reflect.DeepEqual(q, program(t, text)) {
		t.Errorf("%q, was %q", told(grown), want)
	}
}
