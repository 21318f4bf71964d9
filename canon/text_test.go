package canon

import (
	"fmt"
	"math"
	"math/rand"
	"reflect"
	"slices"
	"strings"
	"testing"

	"evenhand/api"
	"evenhand/parse"
	"evenhand/tree"
)

// expressions are each form of an expression, and each mark, beside its text,
// which is written out.
func expressions() map[string]api.Expr {
	x, y, one := ref("x"), ref("y"), num(1)
	return map[string]api.Expr{
		"0":                                      num(0),
		"7":                                      num(7),
		"1000":                                   num(1000),
		"9223372036854775807":                    num(math.MaxInt64),
		"x":                                      x,
		"X_9":                                    ref("X_9"),
		name32:                                   ref(name32),
		"clock":                                  of(api.Clock),
		"a[x]":                                   named(api.Index, "a", x),
		"a[B[0]]":                                named(api.Index, "a", named(api.Index, "B", num(0))),
		"a[(x + y)]":                             named(api.Index, "a", of(api.Add, x, y)),
		"f()":                                    named(api.Call, "f"),
		"f(x)":                                   named(api.Call, "f", x),
		"f(x, 1)":                                named(api.Call, "f", x, one),
		"F(x, 1, clock)":                         named(api.Call, "F", x, one, of(api.Clock)),
		"f(1, 2, 3, 4, 5, 6, 7, 8)":              named(api.Call, "f", num(1), num(2), num(3), num(4), num(5), num(6), num(7), num(8)),
		"f(g(), h(x), a[1])":                     named(api.Call, "f", named(api.Call, "g"), named(api.Call, "h", x), named(api.Index, "a", one)),
		"f((x - y), -1)":                         named(api.Call, "f", of(api.Sub, x, y), of(api.Neg, one)),
		"-1":                                     of(api.Neg, one),
		"!x":                                     of(api.Not, x),
		"--1":                                    of(api.Neg, of(api.Neg, one)),
		"!!x":                                    of(api.Not, of(api.Not, x)),
		"-!-!clock":                              of(api.Neg, of(api.Not, of(api.Neg, of(api.Not, of(api.Clock))))),
		"-9223372036854775807":                   of(api.Neg, num(math.MaxInt64)),
		"-0":                                     of(api.Neg, num(0)),
		"-a[1]":                                  of(api.Neg, named(api.Index, "a", one)),
		"!f()":                                   of(api.Not, named(api.Call, "f")),
		"-(x - y)":                               of(api.Neg, of(api.Sub, x, y)),
		"!(x == !y)":                             of(api.Not, of(api.Same, x, of(api.Not, y))),
		"(x + y)":                                of(api.Add, x, y),
		"(x - y)":                                of(api.Sub, x, y),
		"(x * y)":                                of(api.Mul, x, y),
		"(x / y)":                                of(api.Div, x, y),
		"(x % y)":                                of(api.Mod, x, y),
		"(x < y)":                                of(api.Less, x, y),
		"(x == y)":                               of(api.Same, x, y),
		"(x & y)":                                of(api.And, x, y),
		"(x | y)":                                of(api.Or, x, y),
		"(1 - -1)":                               of(api.Sub, one, of(api.Neg, one)),
		"(-1 - 1)":                               of(api.Sub, of(api.Neg, one), one),
		"((1 - 2) - 3)":                          of(api.Sub, of(api.Sub, one, num(2)), num(3)),
		"(1 - (2 - 3))":                          of(api.Sub, one, of(api.Sub, num(2), num(3))),
		"((1 / 2) % (3 * 4))":                    of(api.Mod, of(api.Div, one, num(2)), of(api.Mul, num(3), num(4))),
		"(((x | y) & 1) == (x < (y + (1 * x))))": of(api.Same, of(api.And, of(api.Or, x, y), one), of(api.Less, x, of(api.Add, y, of(api.Mul, one, x)))),
	}
}

// E1: each form of an expression, and each mark, alone and in each place where
// one may stand.
func TestE1Expressions(t *testing.T) {
	one, y := num(1), ref("y")
	for s, e := range expressions() {
		if got := Expr(e); got != s {
			t.Errorf("%q, want %q", got, s)
		}
		for want, x := range map[string]api.Stmt{
			"y = %s;":            to(api.Assign, "y", e),
			"y[%s] = 1;":         to(api.Put, "y", e, one),
			"y[1] = %s;":         to(api.Put, "y", one, e),
			"print %s;":          do(api.Print, e),
			"keep %s;":           do(api.Keep, e),
			"return %s;":         do(api.Return, e),
			"if %s {\n}":         do(api.If, e),
			"while %s {\n}":      do(api.While, e),
			"print y[%s];":       do(api.Print, named(api.Index, "y", e)),
			"print f(y, %s, 1);": do(api.Print, named(api.Call, "f", y, e, one)),
			"print -%s;":         do(api.Print, of(api.Neg, e)),
			"print !%s;":         do(api.Print, of(api.Not, e)),
			"print (%s - 1);":    do(api.Print, of(api.Sub, e, one)),
			"print (1 / %s);":    do(api.Print, of(api.Div, one, e)),
		} {
			told(t, first(x), strings.Replace(want, "%s", s, 1)+"\n")
		}
	}
}

// E1: of each two operations of two, on either side of one another, each has
// its brackets; those of one have none of their own.
func TestE1EachTwoOperations(t *testing.T) {
	marks := strings.Fields("+ - * / % < == & |")
	a, b, c := ref("a"), ref("b"), ref("c")
	for i, m := range marks {
		for j, n := range marks {
			op, in := api.Add+i, api.Add+j
			for want, e := range map[string]api.Expr{
				fmt.Sprintf("((a %s b) %s c)", n, m):           of(op, of(in, a, b), c),
				fmt.Sprintf("(a %s (b %s c))", m, n):           of(op, a, of(in, b, c)),
				fmt.Sprintf("((a %s b) %s (b %s c))", n, m, n): of(op, of(in, a, b), of(in, b, c)),
				fmt.Sprintf("-(!a %s --(b %s !-c))", m, n):     of(api.Neg, of(op, of(api.Not, a), of(api.Neg, of(api.Neg, of(in, b, of(api.Not, of(api.Neg, c))))))),
			} {
				if got := Expr(e); got != want {
					t.Errorf("%q, want %q", got, want)
				}
				told(t, first(do(api.Keep, e)), "keep "+want+";\n")
			}
		}
	}
}

// E1: numbers of places of an array, and of expressions, have no more digits
// than they need.
func TestE1Numbers(t *testing.T) {
	for s, n := range map[string]int64{"1": 1, "9": 9, "10": 10, "99": 99, "100": 100, "1000": 1000, "4095": 4095, "4096": 4096} {
		told(t, first(api.Stmt{Op: api.Array, Name: "a", N: n}), "array a "+s+";\n")
	}
	for s, n := range map[string]int64{"0": 0, "1": 1, "10": 10, "4097": 4097, "4294967296": 1 << 32, "1000000000000000000": 1e18, "9223372036854775806": math.MaxInt64 - 1, "9223372036854775807": math.MaxInt64} {
		told(t, first(do(api.Print, num(n))), "print "+s+";\n")
	}
}

// E1: each form of a statement, in main, in a function's body, and in each kind
// of block; and several of them.
func TestE1Statements(t *testing.T) {
	x, one := ref("x"), num(1)
	l := []api.Stmt{
		to(api.Assign, "y", x), to(api.Put, "a", x, one), {Op: api.Array, Name: "a", N: 8}, to(api.Input, "X"), do(api.Print, x), do(api.Keep, x), do(api.Return, x),
		do(api.If, x), block(api.If, x, []api.Stmt{do(api.Print, one)}, nil), block(api.If, x, nil, []api.Stmt{do(api.Keep, one)}), block(api.If, x, []api.Stmt{do(api.Print, one)}, []api.Stmt{do(api.Keep, one)}),
		do(api.While, x), block(api.While, x, []api.Stmt{do(api.Return, one)}, nil),
	}
	texts := []string{
		"y = x;", "a[x] = 1;", "array a 8;", "input X;", "print x;", "keep x;", "return x;",
		"if x {\n}", "if x {\n\tprint 1;\n}", "if x {\n} else {\n\tkeep 1;\n}", "if x {\n\tprint 1;\n} else {\n\tkeep 1;\n}",
		"while x {\n}", "while x {\n\treturn 1;\n}",
	}
	for i := range l {
		eachBlock(t, l[i:i+1], texts[i]+"\n")
		j := (i + 5) % len(l)
		eachBlock(t, []api.Stmt{l[i], l[j], l[i]}, texts[i]+"\n"+texts[j]+"\n"+texts[i]+"\n")
	}
	eachBlock(t, l, strings.Join(texts, "\n")+"\n")
}

// eachBlock asks for statements where there may be some; lines are their text
// where they stand in no block.
func eachBlock(t *testing.T, l []api.Stmt, lines string) {
	t.Helper()
	tabs := func(n int) string {
		return strings.TrimSuffix(strings.Repeat("\t", n)+strings.ReplaceAll(lines, "\n", "\n"+strings.Repeat("\t", n)), strings.Repeat("\t", n))
	}
	one, p := num(1), []api.Stmt{do(api.Print, num(2))}
	told(t, first(l...), lines)
	told(t, inFunc(l...), "func f() {\n"+tabs(1)+"}\n")
	told(t, first(block(api.If, one, l, nil)), "if 1 {\n"+tabs(1)+"}\n")
	told(t, first(block(api.If, one, l, p)), "if 1 {\n"+tabs(1)+"} else {\n\tprint 2;\n}\n")
	told(t, first(block(api.If, one, nil, l)), "if 1 {\n} else {\n"+tabs(1)+"}\n")
	told(t, first(block(api.If, one, p, l)), "if 1 {\n\tprint 2;\n} else {\n"+tabs(1)+"}\n")
	told(t, first(block(api.While, one, l, nil), p[0]), "while 1 {\n"+tabs(1)+"}\nprint 2;\n")
	told(t, first(block(api.While, one, []api.Stmt{block(api.If, one, p, l), p[0]}, nil)), "while 1 {\n\tif 1 {\n\t\tprint 2;\n\t} else {\n"+tabs(2)+"\t}\n\tprint 2;\n}\n")
	told(t, inFunc(block(api.If, one, []api.Stmt{block(api.While, one, l, nil)}, p)), "func f() {\n\tif 1 {\n\t\twhile 1 {\n"+tabs(3)+"\t\t}\n\t} else {\n\t\tprint 2;\n\t}\n}\n")
}

// E1: a program of nothing; functions with no, one and more parameters, without
// statements and with some, without main and with it.
func TestE1Functions(t *testing.T) {
	f := func(name string, params ...string) api.Func { return api.Func{Name: name, Params: params} }
	told(t, api.Program{}, "")
	told(t, api.Program{Funcs: []api.Func{}, Main: []api.Stmt{}}, "")
	ret := api.Func{Name: "h", Params: []string{"x"}, Body: []api.Stmt{do(api.Return, ref("x"))}}
	for want, p := range map[string]api.Program{
		"func f() {\n}\n":                                             {Funcs: []api.Func{f("f")}},
		"func F(a) {\n}\n":                                            {Funcs: []api.Func{f("F", "a")}},
		"func f(a, B) {\n}\n":                                         {Funcs: []api.Func{f("f", "a", "B")}},
		"func f(a, a, a) {\n}\n":                                      {Funcs: []api.Func{f("f", "a", "a", "a")}},
		"func f(a, b, c, d, e, f, g, h) {\n}\n":                       {Funcs: []api.Func{f("f", strings.Fields("a b c d e f g h")...)}},
		"func h(x) {\n\treturn x;\n}\n":                               {Funcs: []api.Func{ret}},
		"func f() {\n}\nfunc g(a) {\n}\nfunc f(b, a) {\n}\nkeep x;\n": {Funcs: []api.Func{f("f"), f("g", "a"), f("f", "b", "a")}, Main: []api.Stmt{do(api.Keep, ref("x"))}},
		"func h(x) {\n\treturn x;\n}\nfunc f() {\n}\nprint 1;\n":      {Funcs: []api.Func{ret, f("f")}, Main: []api.Stmt{do(api.Print, num(1))}},
	} {
		told(t, p, want)
	}
	var p api.Program
	want := ""
	for i := range api.MaxFuncs {
		name := fmt.Sprintf("%s%02d", name32[:30], i)
		p.Funcs = append(p.Funcs, api.Func{Name: name, Params: slices.Repeat([]string{name}, api.MaxParams), Body: []api.Stmt{to(api.Input, name)}})
		want += "func " + name + "(" + strings.Repeat(name+", ", 7) + name + ") {\n\tinput " + name + ";\n}\n"
	}
	told(t, p, want)
}

// E1: the document's example, and a text with each form, to the letter.
func TestE1WrittenOut(t *testing.T) {
	told(t, first(to(api.Assign, "x", of(api.Add, num(1), num(2)))), "x = (1 + 2);\n")
	const s = "func fill(n, V) {\n\ti = 0;\n\twhile (i < n) {\n\t\tA[i] = (V * (i + 1));\n\t\tif (i == 3) {\n\t\t\tprint i;\n\t\t} else {\n\t\t\tif !i {\n\t\t\t} else {\n\t\t\t\tkeep -i;\n\t\t\t}\n\t\t}\n\t\ti = (i + 1);\n\t}\n\treturn i;\n}\n" +
		"func Get() {\n\treturn A[0];\n}\narray A 4096;\ninput S;\nx = fill(clock, S);\nif (x & 1) {\n\tx = (x - 1);\n}\nkeep (Get() | --S);\n"
	for _, gap := range []string{" ", "\r\n", " # print 1;\n"} {
		p, at, err := parse.Parse([]byte(strings.Join(strings.FieldsFunc(s, func(r rune) bool { return r <= ' ' }), gap)))
		if at != 0 || err != api.OK {
			t.Fatalf("at %d, %v", at, err)
		}
		told(t, p, s)
	}
}

// deep is a statement of this Depth, from 2 on, that goes down in one way, and
// its text.
func deep(by string, depth int) (api.Stmt, string) {
	n := depth - 2
	e, two := num(1), num(2)
	all := func(from, end string, one func(api.Expr) api.Expr) (api.Stmt, string) {
		for range n {
			e = one(e)
		}
		return do(api.Print, e), "print " + strings.Repeat(from, n) + "1" + strings.Repeat(end, n) + ";\n"
	}
	switch by {
	case "Neg":
		return all("-", "", func(e api.Expr) api.Expr { return of(api.Neg, e) })
	case "Not":
		return all("!", "", func(e api.Expr) api.Expr { return of(api.Not, e) })
	case "left":
		return all("(", " % 2)", func(e api.Expr) api.Expr { return of(api.Mod, e, two) })
	case "right":
		return all("(2 - ", ")", func(e api.Expr) api.Expr { return of(api.Sub, two, e) })
	case "Index":
		return all("a[", "]", func(e api.Expr) api.Expr { return named(api.Index, "a", e) })
	case "Call":
		return all("f(2, ", ", 2)", func(e api.Expr) api.Expr { return named(api.Call, "f", two, e, two) })
	}
	s, text := do(api.Return, e), "return 1;\n"
	for range n {
		text = strings.ReplaceAll("\t"+text, "\n", "\n\t")
		text = text[:len(text)-1]
		switch by {
		case "Body":
			s, text = block(api.If, two, []api.Stmt{s}, nil), "if 2 {\n"+text+"}\n"
		case "Else":
			s, text = block(api.If, two, nil, []api.Stmt{s}), "if 2 {\n} else {\n"+text+"}\n"
		case "loop":
			s, text = block(api.While, two, []api.Stmt{s}, nil), "while 2 {\n"+text+"}\n"
		}
	}
	return s, text
}

func ways() []string { return strings.Fields("Neg Not left right Index Call Body Else loop") }

// E1: what is as deep as may be, however it is, in main and in a function; and
// nothing of what is deeper.
func TestE1Depths(t *testing.T) {
	ok := do(api.Print, num(7))
	for _, by := range ways() {
		for _, n := range []int{2, 3, 62, 63, 64, 65, 66, 200, 10000} {
			if n > 200 && by != "Neg" {
				continue
			}
			s, text := deep(by, n)
			if got := tree.Depth(first(s)); got != n {
				t.Fatalf("%s: %d, want %d", by, got, n)
			}
			if n > 64 {
				nothing(t, by, first(s))
				nothing(t, by, first(ok, s, ok))
				nothing(t, by, inFunc(ok, s))
				continue
			}
			told(t, first(s), text)
			told(t, first(ok, s, ok), "print 7;\n"+text+"print 7;\n")
			in := inFunc(s)
			told(t, in, programTold(in))
		}
	}
}

// E1: an expression is told up to the Depth with which it may stand in some
// statement, which is one more.
func TestE1DepthsOfExpressions(t *testing.T) {
	for _, by := range ways()[:6] {
		for _, n := range []int{1, 2, 61, 62, 63, 64, 65, 100, 5000} {
			s, text := deep(by, n+1)
			want := strings.TrimSuffix(strings.TrimPrefix(text, "print "), ";\n")
			if n > 63 {
				want = ""
			}
			if got := Expr(s.L[0]); got != want {
				t.Errorf("%s, %d: %q, want %q", by, n, got, want)
			}
		}
	}
}

// E1: how long a text is makes no difference to what is told: what has more
// bytes than are parsed is told whole, too.
func TestE1ManyBytes(t *testing.T) {
	x := to(api.Assign, "x", num(1))
	l := slices.Repeat([]api.Stmt{x}, 9361)
	most := strings.Repeat("x = 1;\n", 9361)
	for _, name := range []string{"x", "xy", "xyz", "wxyz", name32} {
		told(t, first(append(l[:9361:9361], to(api.Assign, name, num(1)))...), most+name+" = 1;\n")
	}
	if n := len(most + "xyz = 1;\n"); n != api.MaxSource {
		t.Errorf("%d bytes at the edge", n)
	}
	p := first(slices.Repeat(l[:1], 100000)...)
	p.Funcs = []api.Func{{Name: "f", Body: slices.Repeat([]api.Stmt{block(api.While, num(1), l[:2], nil)}, 10000)}}
	told(t, p, programTold(p))
}

// E1: programs of anything, against the rules told another way; what is told is
// parsed as the program, and of an expression as it stands in a Print.
func TestE1Many(t *testing.T) {
	r := rand.New(rand.NewSource(15))
	for range 2000 {
		p := some(r)
		told(t, p, programTold(p))
		e := someExprs(r, 1, 5)[0]
		got := Expr(e)
		if want := exprTold(e); got != want {
			t.Errorf("%q, want %q", got, want)
		}
		told(t, first(do(api.Print, e)), "print "+got+";\n")
	}
}

// E1, R1, R4: what is handed over stays as it was, behind its lists' ends too; a
// text does not hang on whether lists are none or empty, nor on earlier calls.
func TestE1ProgramsStay(t *testing.T) {
	r := rand.New(rand.NewSource(5))
	for i := range 300 {
		p := some(rand.New(rand.NewSource(int64(i))))
		was := some(rand.New(rand.NewSource(int64(i))))
		part := api.Program{Funcs: p.Funcs[:len(p.Funcs)/2], Main: p.Main[:len(p.Main)/2]}
		text, half := Text(p), Text(part)
		told(t, part, programTold(part))
		Text(some(r))
		Text(api.Program{Main: append(p.Main[:len(p.Main):len(p.Main)], api.Stmt{})})
		for _, s := range p.Main {
			for _, e := range s.L {
				Expr(e)
			}
		}
		if !reflect.DeepEqual(p, was) || Text(p) != text || Text(part) != half {
			t.Errorf("%+v became %+v", was, p)
		}
	}
	empty := api.Stmt{Op: api.If, L: []api.Expr{{Op: api.Call, Name: "f", L: []api.Expr{}}}, Body: []api.Stmt{}, Else: []api.Stmt{}}
	told(t, api.Program{Funcs: []api.Func{{Name: "f", Params: []string{}, Body: []api.Stmt{}}}, Main: []api.Stmt{empty}}, "func f() {\n}\nif f() {\n}\n")
}
