package parse

import (
	"strings"
	"testing"

	"evenhand/api"
	"evenhand/tree"
)

// opener is what may be open: what stands ahead of it, itself, what ends it.
type opener struct{ lead, open, end string }

func openers() []opener {
	return []opener{{"", "(", ")"}, {"a", "[", "]"}, {"f", "(", ")"}, {"", "-", ""}, {"", "!", ""}}
}

// nest is n openers that come in turn, within one another; a ^ stands ahead of
// the one with which there are more than may be open, if so many are ahead of all.
func nest(l []opener, n, ahead int, inner string) string {
	s, ends := "", ""
	for i := range n {
		o := l[i%len(l)]
		if s += o.lead; i+ahead == 256 {
			s += "^"
		}
		s, ends = s+o.open, o.end+ends
	}
	return s + inner + ends
}

// round is n round brackets around something.
func round(n int, inner string) string {
	return strings.Repeat("(", n) + inner + strings.Repeat(")", n)
}

// D1: MaxNest is what the chapter writes.
func TestD1MaxNest(t *testing.T) {
	if MaxNest != 256 {
		t.Errorf("MaxNest is %d", MaxNest)
	}
}

// D1: 256 of each kind may be open, and of all of them mixed; the next one is
// told. Where they may be, but the statement is too deep, its first token is.
func TestD1OpenInExpressions(t *testing.T) {
	sparse := [][]opener{openers()[:1]} // with few enough that are deep
	dense := [][]opener{openers()}
	for _, o := range openers() {
		paren := openers()[0]
		sparse = append(sparse, []opener{paren, paren, paren, paren, o}, []opener{o, paren, paren, paren, paren, paren})
		if o != paren {
			dense = append(dense, []opener{o}, []opener{o, paren})
		}
	}
	around := [][2]string{
		{"x = ", ";"}, {"print ", ";"}, {"keep ", ";"}, {"return ", ";"}, {"if ", " { }"}, {"while ", " { y = (1); }"},
		{"x = (1) + a[2] - f(3) - -4 < !5 | ", " - (2) * -a[3] / f(4);"},
	}
	for _, x := range around {
		for _, l := range append(sparse, dense...) {
			for _, n := range []int{257, 258, 1000} {
				marked(t, x[0]+nest(l, n, 0, "1")+x[1], api.ErrDepth)
				marked(t, x[0]+nest(l, n, 0, ""), api.ErrDepth)
			}
		}
		for _, l := range sparse {
			right(t, x[0]+nest(l, 256, 0, "1")+x[1])
		}
		for _, l := range dense {
			wrong(t, x[0]+nest(l, 256, 0, "1")+x[1], 0, api.ErrDepth)
		}
	}
}

// D1: what stands in the innermost of 255, and of 256, that are open.
func TestD1OpenInnermost(t *testing.T) {
	for _, s := range []string{
		"1", "x", "clock", "1 - 1", "a - b - 1", "(1)", "a[1]", "f()", "f(1, 2)", "-1", "!1",
		"(1) + (2)", "a[1] + a[2]", "f() + f(1)", "-1 + -2", "-1 - -1", "!1 - !1", "-1 * (2)", "-a + b[1]", "!f - f()", "-1 < !1 & (1) | a[1] == f(1)",
	} {
		right(t, "x = "+round(255, s)+";")
	}
	for _, s := range []string{
		"-^(1)", "-a^[1]", "-f^()", "-^-1", "-^!1", "!^-1", "!^!1", "(^(1))", "(^-1)", "(a^[1])", "a[^(1)]", "a[f^(1)]", "a[^-1]", "a[b^[1]]", "f(^(1))", "f(1, ^-1)", "f(f^())", "f(a^[1])", "f(1, 2, ^!1)",
		"1 - -^-1", "1 + (1 + ^(1))", "(1) + (^!1)", "-1 - -^-1", "-^(1) + )",
	} {
		marked(t, "x = "+round(255, s)+";", api.ErrDepth)
	}
	for _, s := range []string{"1", "1 - 1", "a - b - c * 1"} {
		right(t, "x = "+round(256, s)+";")
	}
	for _, s := range []string{"^(1)", "a^[1]", "f^()", "f^(1)", "^-1", "^!1", "1 - ^-1", "1 - 2 * ^!1", "1 + ^(1)", "^(", "^-", "^!)", "a^[]"} {
		marked(t, "x = "+round(256, s)+";", api.ErrDepth)
	}
	for _, s := range []string{"1 ^2", "^*", "^)", "1 ^]"} {
		marked(t, "x = "+round(256, s)+";", api.ErrSyntax)
	}
}

// D1: blocks are open till they are closed, the function's too; what stands
// ahead of a block is over.
func TestD1OpenBlocks(t *testing.T) {
	for _, o := range []opener{{"if 1 ", "{", "}"}, {"while x ", "{", "} y = 1;"}, {"if a < b ", "{", "} else { }"}} {
		l := []opener{o}
		for _, n := range []int{257, 300} {
			marked(t, nest(l, n, 0, ""), api.ErrDepth)
			marked(t, "func f(a) {"+nest(l, n, 1, ""), api.ErrDepth)
			marked(t, "func f(a) { } "+nest(l, n, 0, "x = ;"), api.ErrDepth)
		}
		marked(t, "y = 1; ^"+nest(l, 256, 0, "")+" z = ;", api.ErrDepth)
		for _, n := range []int{1, 2, 60} {
			in := func(count int, inner string) string { return nest(l, n, 0, "y = 1; x = "+round(count, inner)+";") }
			right(t, in(256-n, "1"))
			marked(t, in(256-n, "^(1)"), api.ErrDepth)
			right(t, "func f(a) { "+in(255-n, "1")+"}")
			marked(t, "func f(a) { "+in(255-n, "^-1")+"}", api.ErrDepth)
			right(t, nest(l, n, 0, "while "+round(256-n, "1")+" { x = "+round(255-n, "1")+"; }"))
			marked(t, nest(l, n, 0, "while "+round(256-n, "1")+" { x = "+round(255-n, "^!1")+"; }"), api.ErrDepth)
		}
	}
	marked(t, nest([]opener{{"if 1 ", "{", "}"}}, 256, 0, "if 1 ^{ }"), api.ErrDepth)
	for _, s := range []string{"if 1 ^;", "while x ^y = 1; }", "if 1 ^else { }", "if 1 ^} }", "if 1 ^2 { }", "^;", "x ^;", "x = ^;"} {
		marked(t, nest([]opener{{"if 1 ", "{", "}"}}, 256, 0, s), api.ErrSyntax)
	}
	marked(t, nest([]opener{{"if 1 ", "{", "}"}}, 255, 0, "if (1) { } else { } if (1) { } if (^(1)) { }"), api.ErrDepth)
	marked(t, nest([]opener{{"if 1 ", "{", "}"}}, 255, 0, "if 1 { } else { while 1 ^{ } }"), api.ErrDepth)
	right(t, "x["+round(255, "1")+"] = "+round(256, "1")+";")
	marked(t, "x["+round(255, "^(1)")+"] = 1;", api.ErrDepth)
	right(t, "func f(a, b) { x = "+round(255, "1")+"; } y = "+round(256, "2")+";")
	marked(t, "func f(a, b) { x = "+round(255, "^(1)")+"; }", api.ErrDepth)
}

// D1: brackets, and operations of one, that are over are not counted, how many
// they ever were.
func TestD1OpenAndOver(t *testing.T) {
	for _, s := range []string{
		"x = (1);", "x = a[1];", "x = f(1);", "x = f();", "x = -1;", "x = !1;", "a[1] = 2;", "if 1 { }", "if 1 { } else { }", "while (1) { x = -1; }",
		"x = -(-a[-f(-1)]);", "if (-1) { y[(1)] = f(!2, (3)); }", "x = " + round(256, "1") + ";", "x = " + round(255, "-1") + ";",
	} {
		right(t, strings.Repeat(s, min(300, 65536/len(s))))
		if len(s) < 100 {
			right(t, "func f(a) { "+strings.Repeat(s, 300)+" }")
		}
	}
	right(t, strings.Repeat("func f(a, b) { x = (1); }", 32)+"x = "+round(256, "1")+";")
	right(t, "x = f("+strings.Repeat("-(1) + ", 50)+"1, "+strings.Repeat("a[!1] * ", 50)+"1, "+round(255, "1")+");")
}

// expressions are ways to write an expression of a Depth from 5 on.
func expressions(depth int) []string {
	n, rep := depth-1, strings.Repeat
	return []string{
		rep("!", n) + "1",
		rep("-", n) + "clock",
		"1" + rep("+1", n),
		"1" + rep("/2*3", n/2) + rep("%4", n%2),
		"1 | 1 & 1 < 1 " + rep("* 1", n-3),
		rep("1 - (", n-1) + "1 - 1" + rep(")", n-1),
		rep("a[", n) + "x" + rep("]", n),
		rep("f(1, ", n) + "x" + rep(", 2)", n),
		rep("f(", n) + "f()" + rep(")", n),
		rep("((!", n) + "(1)" + rep("))", n),
		"f(" + rep("!", n-2) + "1, 1) + a[1]",
	}
}

// statements are ways to write a statement of a Depth from 6 on.
func statements(depth int) []string {
	var l []string
	for _, e := range expressions(depth - 1) {
		l = append(l, "x = "+e+";")
	}
	e, rep := expressions(depth - 1)[0], strings.Repeat
	l = append(l, "x["+e+"] = 1;", "x[1] = "+e+";", "print "+e+";", "keep "+e+";", "return "+e+";")
	l = append(l, "if "+e+" { }", "if "+e+" { x = 1; } else { y = 2; }", "while "+e+" { input x; }")
	for _, lead := range []string{"if 1 {", "while 1 {", "if 1 { } else {", "if 1 { input y; } else { array y 2;", "while 1 { input y;"} {
		for _, last := range []string{"input x;", "array x 1;"} {
			l = append(l, rep(lead, depth-1)+last+rep("}", depth-1))
		}
		l = append(l, rep(lead, depth-2)+"if 1 { } else { }"+rep("}", depth-2))
		l = append(l, rep(lead, 4)+"x = "+expressions(depth - 5)[0]+"; y = 1;"+rep("}", 4))
	}
	return append(l, "if 1 { x = "+expressions(depth - 2)[0]+"; } else { }", "if 1 { } else { x = "+expressions(depth - 2)[0]+"; }")
}

// D1: a statement of Depth 64 is let through, and the first token of one of 65
// is told, wherever it stands.
func TestD1DeepStatements(t *testing.T) {
	for _, s := range statements(64) {
		right(t, s)
		right(t, "func f(a) { y = 1; "+s+" } print 1; "+s+s)
		if p, _, _ := Parse([]byte(s)); tree.Depth(p) != 64 {
			t.Errorf("%s is of Depth %d", s, tree.Depth(p))
		}
		marked(t, "y = 1; ^if 1 { "+s+" }", api.ErrDepth)
		marked(t, "^if 1 { } else { y = 1; "+s+" y = 2; } z = 3;", api.ErrDepth)
		marked(t, "func f() { y = 1; ^while 1 { "+s+" } z = 3; } func g() { }", api.ErrDepth)
	}
	for _, n := range []int{65, 66, 80} {
		for _, s := range statements(n) {
			for _, around := range [][2]string{{"^", ""}, {"print 1; ^", " print 2;"}, {"func f() { ^", "}"}, {"func f(a) { x = 1; if 1 { } ^", " x = 2; } func g() { }"}, {"func f() { } ^", ""}} {
				marked(t, around[0]+s+around[1], api.ErrDepth)
			}
		}
	}
}

// D1: that a statement is too deep is told as soon as it is over: behind what is
// wrong inside of it, ahead of what is wrong behind it.
func TestD1DeepStatementsAmongErrors(t *testing.T) {
	for _, s := range statements(65) {
		for _, behind := range []string{" x = ;", " }", " )", " func f() { }", " else_ { }", " 1", " array a 0;", " " + s, " x = 00;", " clock", " x = f(1,2,3,4,5,6,7,8,9);"} {
			marked(t, "^"+s+behind, api.ErrDepth)
			marked(t, "func f() { y = 1; ^"+s+behind, api.ErrDepth)
		}
		marked(t, s[:len(s)-1]+"^", api.ErrSyntax)
		marked(t, s[:len(s)-1]+" ^= 1;", api.ErrSyntax)
		marked(t, "func f() { "+s[:len(s)-1]+"^", api.ErrSyntax)
		marked(t, "if 1 { "+s+" x = ^; }", api.ErrSyntax)
		marked(t, "if 1 { "+s+" ^", api.ErrSyntax)
		marked(t, "if 1 { "+s+" ^) }", api.ErrSyntax)
		marked(t, "if 1 { "+s+" } else ^x = 1;", api.ErrSyntax)
		marked(t, "if 1 { "+s+" } else { x = ^00; }", api.ErrArg)
		marked(t, "while 1 { "+s+" array a ^0; }", api.ErrArg)
		marked(t, "while 1 { "+s+" x = f(1,2,3,4,5,6,7,8,^9); }", api.ErrFull)
		marked(t, "while 1 { "+s+" x = "+round(255, "^(1)")+"; }", api.ErrDepth)
		marked(t, "x = ^; "+s, api.ErrSyntax)
	}
	deep := strings.Repeat("!", 63) + "1"
	marked(t, "^if "+deep+" { } else_ = 1; x = ;", api.ErrDepth)
	marked(t, "if "+deep+" ^;", api.ErrSyntax)
	marked(t, "if "+deep+" { } else ^;", api.ErrSyntax)
	marked(t, "if "+deep+" { } else { ^", api.ErrSyntax)
	marked(t, "^while "+deep+" { } else { }", api.ErrDepth)
	marked(t, "x["+deep+"] ^+ 1;", api.ErrSyntax)
	marked(t, "x = "+deep+" + ^;", api.ErrSyntax)
	marked(t, strings.Repeat("func f() { } ", 31)+"func f() { ^x = "+deep+"; } func f() { }", api.ErrDepth)
	marked(t, strings.Repeat("func f() { } ", 32)+"^func f() { x = "+deep+"; }", api.ErrFull)
}

// D1: as many bytes as may be, of all kinds; and one more, of which nothing is told.
func TestD1ManyBytes(t *testing.T) {
	fill := func(s, more, end string) string {
		s += strings.Repeat(more, (65536-len(s)-len(end))/len(more)) + end
		return s + strings.Repeat(" ", 65536-len(s))
	}
	for _, s := range []string{
		fill("", " ", ""), fill("#", "x", ""), fill("", "x=1;", ""), fill("x=1;", "\n", "y=2;"), fill("func f(){", "x=1;", "}"), fill("", "if 1{}else{}", ""), fill("", "x=-1-f(a[1]);", ""), fill("while 1{", "if x{y=1;}", "}"),
	} {
		right(t, s)
		for _, c := range []string{" ", "#", "x", ";", "\x00"} {
			wrong(t, s+c, 0, api.ErrArg)
		}
	}
	if p, _, _ := Parse([]byte(fill("", "x=1;", ""))); len(p.Main) != 16384 {
		t.Errorf("%d statements", len(p.Main))
	}
	for s, at := range map[string]int{
		fill("", "x=1;", "x=1 "): 65536, fill("", " ", "}"): 65535, fill("x=1", " ", ")"): 65535, fill("", "(", ""): 0, fill("{", "}", ""): 0, fill("x=(1", " ", ""): 65536,
		fill("x=1;", "\n", "x"): 65536, fill("if 1{", "x=1;", ""): 65536,
	} {
		wrong(t, s, at, api.ErrSyntax)
	}
	for s, at := range map[string]int{
		fill("x=1", "+1", ";"): 0, fill("x=1", "|1", ";"): 0, fill("y=2;x=1", "*1/1", ";"): 4, fill("x=", "(", ""): 258, fill("x=", "-", ""): 258, fill("x=", "a[", ""): 2 + 2*256 + 1, fill("x=", "f(", ""): 2 + 2*256 + 1, fill("", "if 1{", ""): 5*256 + 4,
		fill("x=f(1,a[1", "-1", "]);"): 0, fill("func f(){if 1{x=1", "-1", ";}}"): 9,
	} {
		wrong(t, s, at, api.ErrDepth)
	}
	wrong(t, fill("x = 1;", "func f() { }", ""), 6, api.ErrSyntax)
	wrong(t, fill("", "func f(){}", ""), 320, api.ErrFull)
	wrong(t, fill("x=f(1", ",1", ");"), 20, api.ErrFull)
	wrong(t, fill("x=", "9", ";"), 2, api.ErrArg)
	wrong(t, fill("x = ;", " ", "_"), 65535, api.ErrSyntax)
}
