package parse

import (
	"math/rand"
	"slices"
	"strings"
	"testing"

	"evenhand/api"
	"evenhand/lex"
)

// sample has each form of a function, a statement and an expression.
const sample = `func f ( ) { } func g ( a , b , c ) { array d 3 ; input e ; return a ; }
x = 1 + 2 ; y [ 3 ] = - f ( ) ; if a { print ! b [ 1 ] ; } while ( c ) { keep f ( 1 , clock , 2 ) ; }
if 1 { } else { x = a - b * 4 ; if x { } else { } } return g ( x , y [ 2 ] & 7 , 3 ) ;`

// told asks for what the rules say of tokens, beside its limits.
func told(t *testing.T, g rules, tokens []string, gap string) {
	t.Helper()
	s, places := write(tokens, gap)
	if n := g.firstWrong(tokens); n >= 0 {
		wrong(t, s, places[n], api.ErrSyntax)
	} else {
		right(t, s)
	}
}

// D1: errors written out: a token that is missing, or one too many.
func TestD1WrongTokens(t *testing.T) {
	for _, s := range []string{
		"x = 1 +^;", "x = ^;", "x ^1;", "x =^", "x^", "x = 1^", "x = 1 ^1;", "x = 1;^;", "^;", "^= 1;", "x = ^= 1;", "x ^== 1;", "x ^() = 1;", "x ^+ 1;",
		"^1;", "^1 = x;", "^}", "^{ }", "^(x) = 1;", "f^();", "f^(1) = 1;", "^-x = 1;", "^clock = 1;", "^)", "^]", "^,",
		"x[^] = 1;", "x[1 ^= 1;", "x[1]^;", "x[1] ^== 1;", "x[1] = ^;", "x[1^, 2] = 1;", "x[1]^[2] = 1;", "x ^] = 1;",
		"array ^;", "array a^;", "array ^8 a;", "array a ^b;", "array a ^-1;", "array a 8^", "array a 8 ^8;", "array a ^(8);", "array ^0 a;", "array a^[8];",
		"input ^;", "input ^1;", "input x^", "input x ^y;", "input x ^= 1;", "input ^(x);",
		"print ^;", "print 1^", "print 1 ^2;", "keep ^;", "keep x^", "return ^;", "return x ^y;", "return^", "print ^print 1;",
		"if ^{ }", "if x ^print 1;", "if x {^", "if x { } else ^print 1;", "if x { } else ^if x { }", "if x { } else { } ^else { }", "^else { }", "if x ^else { }", "if x { } else^", "if x ^; { }",
		"while ^{ }", "while x ^;", "while x {^", "while 1 { } ^else { }", "while x { ^) }", "while x { } ^}",
		"func ^() { }", "func ^1() { }", "func f ^{ }", "func f( ^{ }", "func f(^,a) { }", "func f(a,^) { }", "func f(a ^b) { }", "func f(^1) { }", "func f() ^;", "func f()^", "func f() ^x = 1;", "func f() {^", "func f() { print 1;^",
		"func f() { ^func g() { } }", "x = 1; ^func f() { }", "if 1 { ^func f() { } }", "func f(^(a)) { }", "func f(a^[1]) { }", "func^",
		"x = (^);", "x = (1^;", "x = (1 ^2);", "x = 1^);", "x = ((1)^;", "x = (1^];", "x = ^[1];", "x = a[^];", "x = a[1^;", "x = a[1^);", "x = a[1^, 2];", "x = a[1]^[2];",
		"x = f(^;", "x = f(^,1);", "x = f(1,^);", "x = f(1,^,2);", "x = f(1 ^2);", "x = f(1^;", "x = f(1^];", "x = f(1)^(2);", "x = (f)^(1);", "x = 1^(2);", "x = clock^();", "x = clock^[1];",
		"x = 1 + ^+ 2;", "x = 1 + ^;", "x = ^+ 1;", "x = ^* 1;", "x = 1 ^! 2;", "x = 1 == ^= 2;", "x = 1 ^= 2;", "x = 1 < ^= 2;", "x = -^;", "x = !^", "x = 1 & ^& 2;", "x = 1 | ^| 2;", "x = - ^* 1;", "x = (-^);",
	} {
		marked(t, s, api.ErrSyntax)
	}
}

// D1: of each token that is missing, of each that is one too many, and of each
// in the place of another, in a text of all forms, the rules' first wrong one.
func TestD1EachTokenOfEachForm(t *testing.T) {
	g, all := chapter(), strings.Fields(sample)
	right(t, sample)
	for i := range all {
		told(t, g, slices.Delete(slices.Clone(all), i, i+1), " ")
		told(t, g, all[:i], "\n")
		for _, x := range allTokens() {
			told(t, g, slices.Insert(slices.Clone(all), i, x), " ")
			changed := slices.Clone(all)
			changed[i] = x
			told(t, g, changed, "\t")
		}
	}
}

// D1: all that may begin a program, up to four tokens, and each token behind it.
func TestD1EachBeginning(t *testing.T) {
	g := chapter()
	var each func(tokens []string, w waiting, left int)
	each = func(tokens []string, w waiting, left int) {
		if s, places := write(tokens, " "); len(g.behind(w, "$")) > 0 {
			right(t, s)
		} else {
			wrong(t, s, places[len(tokens)], api.ErrSyntax)
		}
		for _, x := range allTokens() {
			next := append(slices.Clone(tokens), x)
			if v := g.behind(w, x); len(v) == 0 {
				s, places := write(append(next, "x", ";"), " ")
				wrong(t, s, places[len(tokens)], api.ErrSyntax)
			} else if left > 0 {
				each(next, v, left-1)
			}
		}
	}
	each(nil, g.begin(), 4)
}

// D1: programs of anything of which some tokens are missing, or too many.
func TestD1ManyWrongPrograms(t *testing.T) {
	g, r, wrongs := chapter(), rand.New(rand.NewSource(6)), 0
	for range 500 {
		w := writer{r: r}
		w.program(some(r))
		l := w.list
		for range r.Intn(4) {
			i, x := r.Intn(len(l)+1), allTokens()[r.Intn(len(allTokens()))]
			if r.Intn(2) == 0 || i == len(l) {
				l = slices.Insert(l, i, x)
			} else {
				l = slices.Delete(l, i, i+1)
			}
		}
		if g.firstWrong(l) >= 0 {
			wrongs++
		}
		told(t, g, l, " ")
	}
	if wrongs < 100 || wrongs > 450 {
		t.Errorf("%d of 500 are wrong: neither kind is held to account", wrongs)
	}
}

// D1: a keyword is no name, wherever one is asked for; clock is an expression,
// but has no places, and is not called.
func TestD1Keywords(t *testing.T) {
	asked := []string{"func ^K() { }", "func f(^K) { }", "func f(a, ^K) { }", "func f(^K, a) { }", "array ^K 1;", "input ^K;", "func f() { input ^K; }"}
	said := []string{"x = ^K;", "x = a + ^K;", "x[^K] = 1;", "x = f(^K);", "x = f(1, ^K);", "x = a[^K];", "x = -^K;", "x = (^K);", "print ^K;", "if ^K { }", "while ^K { }"}
	for _, k := range []string{"func", "array", "input", "print", "keep", "if", "else", "while", "return", "clock"} {
		for _, s := range asked {
			marked(t, strings.Replace(s, "K", k, 1), api.ErrSyntax)
		}
		for _, s := range said {
			if s = strings.Replace(s, "K", k, 1); k == "clock" {
				right(t, strings.Replace(s, "^", "", 1))
			} else {
				marked(t, s, api.ErrSyntax)
			}
		}
		for _, s := range []string{strings.ToUpper(k[:1]) + k[1:], k + "_", k + "0", "x" + k} {
			says(t, "input "+s+";", first(api.Stmt{Op: api.Input, Name: s}))
		}
	}
	for _, s := range []string{"x = clock^[1];", "x = clock^(1);", "^clock = 1;", "^clock[1] = 1;", "func f() { ^else = 1; }", "array ^= 1;", "if ^= 1;", "print ^= 1;", "func ^= 1;", "input ^= 1;"} {
		marked(t, s, api.ErrSyntax)
	}
}

// D1: the thirty-third function is one too many, whatever comes of it.
func TestD1ManyFunctions(t *testing.T) {
	most := strings.Repeat("func f(a) { x = 1; }\n", 32)
	right(t, most)
	right(t, most+"print 1;")
	for _, s := range []string{"func f() { }", "func f() { x = ; }", "func", "func func", "func 1() { }", "func f() { } func g() { }", "func f() { } x = ;"} {
		wrong(t, most+s, len(most), api.ErrFull)
		wrong(t, most[len("func f(a) { x = 1; }\n"):]+"func f( 1", len(most)-len("func f(a) { x = 1; }\n")+len("func f( "), api.ErrSyntax)
	}
	marked(t, most+"print 1; ^func f() { }", api.ErrSyntax)
	marked(t, most+"if 1 { ^func f() { } }", api.ErrSyntax)
	marked(t, "x = 1; ^"+most, api.ErrSyntax)
	marked(t, most[:len(most)-2]+" ^func f() { } }", api.ErrSyntax)
}

// D1: behind the eighth parameter, or argument, no comma may be; what is told is
// the token behind it, whatever that is.
func TestD1ManyParameters(t *testing.T) {
	const eight = "a,b,c,d,e,f,g,h"
	for _, s := range []string{"func f(" + eight + ") { }", "x = f(" + eight + ");", "x = f(f(" + eight + ")," + eight[2:] + ");"} {
		right(t, s)
	}
	behind := append(allTokens(), "00", "9223372036854775808", "i)", "")
	for _, x := range behind {
		for _, s := range []string{"func f(" + eight, "x = f(" + eight, "x = 1; print -a[f(g(1)," + eight[2:], "if f(1,2,3,4,5,6,7,a[8]"} {
			marked(t, s+",^"+x, api.ErrFull)
			marked(t, s+" , ^"+x+") { }", api.ErrFull)
			if x != "" && !strings.Contains(") , [ ( = ; ", x+" ") && opOf(x) == 0 {
				marked(t, s+" ^"+x, api.ErrSyntax)
			}
		}
	}
	marked(t, "func f(a,b,c,d,e,f,g,^) { }", api.ErrSyntax)
	marked(t, "func f(a,b,c,d,e,f,g,^1,i) { }", api.ErrSyntax)
	marked(t, "x = f(1,2,3,4,5,6,7,^);", api.ErrSyntax)
	marked(t, "x = f(1,2,3,4,5,6,7,^,8,9);", api.ErrSyntax)
	marked(t, "x = f(1,2,3,4,f(1,2,3,4,5,6,7,8,^9),6,7,8,9);", api.ErrFull)
}

// D1: a Number may be just what is known; behind array only from 1 to 4096.
func TestD1Numbers(t *testing.T) {
	for _, s := range []string{"00", "01", "007", "9223372036854775808", "9223372036854775810", "10000000000000000000", "18446744073709551616", strings.Repeat("9", 1000)} {
		marked(t, "array a ^"+s+";", api.ErrArg)
		for text := range everywhere("^"+s, api.Expr{}) {
			marked(t, text, api.ErrArg)
		}
		marked(t, "x = ^"+s, api.ErrArg)
		marked(t, "x = 1 + -(^"+s+" +;", api.ErrArg)
		marked(t, "array a ^"+s, api.ErrArg)
	}
	for s, n := range map[string]int64{"0": 0, "1": 1, "10": 10, "4097": 4097, "9223372036854775799": 9223372036854775799, "9223372036854775807": 9223372036854775807} {
		for text, want := range everywhere(s, num(n)) {
			says(t, text, want)
		}
	}
	for s, n := range map[string]int64{"1": 1, "2": 2, "10": 10, "4095": 4095, "4096": 4096} {
		says(t, "array a "+s+";", first(api.Stmt{Op: api.Array, Name: "a", N: n}))
		marked(t, "array a "+s+"^)", api.ErrSyntax)
	}
	for _, s := range []string{"0", "4097", "5000", "40960", "9223372036854775807"} {
		marked(t, "array a ^"+s+";", api.ErrArg)
		marked(t, "func f() { array a ^"+s+" }", api.ErrArg)
		marked(t, "print 1; if x { array a ^"+s, api.ErrArg)
	}
}

// D1: of bytes that are no tokens Lex's place and error, whatever stands ahead.
func TestD1BytesThatAreNoTokens(t *testing.T) {
	for _, s := range []string{
		"^_", "x = 1 ^@", "x = ; ^@", "x = 1^a;", "x = 0^x1; .", "x = 00 ^.", "^\x00", "x = 1; # \xff\n^\xff", "1 2 3^_", "} ^" + strings.Repeat("a", 33) + ";", "array a 0; ^?",
		"x = " + strings.Repeat("(", 300) + "^$", strings.Repeat("func f() { } ", 40) + "^~", "x = f(1,2,3,4,5,6,7,8,9); ^\"", "x = " + strings.Repeat("!", 200) + "1; ^'",
	} {
		at := strings.Index(s, "^")
		_, n, err := lex.Lex([]byte(s[:at] + s[at+1:]))
		if n != at || err != api.ErrSyntax {
			t.Errorf("%q: Lex tells %d, %v", s, n, err)
		}
		marked(t, s, api.ErrSyntax)
	}
}

// D1: of several wrong tokens the first from the left is told.
func TestD1SeveralErrors(t *testing.T) {
	all := []struct {
		s   string
		err api.Errno
	}{
		{"x = ^;", api.ErrSyntax}, {"x = 1^)", api.ErrSyntax}, {"^else", api.ErrSyntax},
		{"x = ^00;", api.ErrArg}, {"array a ^4097;", api.ErrArg},
		{"x = f(1,2,3,4,5,6,7,8,^9);", api.ErrFull},
		{"x = " + strings.Repeat("-", 256) + "^-1;", api.ErrDepth}, {"^x = " + strings.Repeat("!", 63) + "1;", api.ErrDepth},
	}
	for _, a := range all {
		for _, b := range all {
			last := strings.Replace(b.s, "^", "", 1)
			marked(t, a.s+" "+last, a.err)
			marked(t, "func f(a) { print a; } if 1 { y = 2; } x = 3; "+a.s+" } func 1 "+last, a.err)
		}
	}
}
