package label

import (
	"math/rand"
	"reflect"
	"strings"
	"testing"

	"evenhand/api"
)

// funcs are what the texts call: with a public parameter and a secret one, and a
// secret function.
const funcs = "func f(a, B) { } func F(a, B) { } func none() { } "

// stands are all places where a statement may stand: in main and in functions,
// in each block, deep in deep, ahead of others and behind.
func stands() (l []string) {
	for _, b := range []string{
		"@", "x = 1; @", "@ x = 1;", "if 1 { @ }", "if 1 { } else { @ }", "while 1 { @ }", "if 1 { print 2; @ keep 3; } else { keep 4; }", "if 1 { keep 2; } else { print 3; @ keep 4; } print 5;",
		"while 1 { if 2 { } else { while 3 { if 4 { @ } } } }", strings.Repeat("while 1 { ", 50) + "@" + strings.Repeat(" }", 50), strings.Repeat("if 1 { } else { ", 50) + "@" + strings.Repeat(" }", 50),
	} {
		l = append(l, funcs+b, funcs+"func g(x) { "+b+" }", funcs+"func g(X) { "+b+" } func h() { } print 1;")
	}
	return l
}

// secretTexts are secret, and publicTexts are public; in none of them anything
// is told.
func secretTexts() []string {
	return []string{"S", "-S", "!S", "A[1]", "A[p]", "F(1, 2)", "F(p, S)", "(S + p)", "(p - S)", "(S * T)", "(S / 2)", "(S % p)", "(p < S)", "(S == 1)", "(1 & S)", "(S | 1)", "-!(1 + (p & F(0, 0)))", "(1 + (2 + (3 + (4 + S))))", "(clock + S)"}
}

func publicTexts() []string {
	return []string{"1", "p", "clock", "a[1]", "a[p]", "f(1, 2)", "f(p, S)", "f(1, F(2, A[3]))", "none()", "-p", "!f(1, S)", "(p + q)", "(p / q)", "(1 % f(p, S))", "a[f(p, S)]", "-!(1 + (p & f(0, S)))", "(1 + (2 + (3 + (4 + s))))"}
}

// G1: each kind of statement, in all places, with what is secret and public; what
// it tells, and what it does not.
func TestG1CheckEachStatement(t *testing.T) {
	for place, tells := range map[string]bool{
		"x = @;": true, "X = @;": false, "xX = @;": true, "Xx = @;": false,
		"a[@] = 1;": true, "A[@] = 1;": true, "a[1] = @;": true, "A[1] = @;": false, "a[p] = @;": true, "A[p] = @;": false, "A[@] = S;": true, "A[@] = @;": true, "a[@] = @;": true,
		"print @;": true, "keep @;": false, "if @ { }": true, "if @ { print 1; } else { print 2; }": true, "while @ { }": true, "while @ { print 1; }": true,
	} {
		for _, stand := range stands() {
			for _, s := range secretTexts() {
				text := in(stand, in(place, s))
				checks(t, program(t, text), tells, text)
			}
			for _, s := range publicTexts() {
				lets(t, in(stand, in(place, s)))
			}
		}
	}
	for _, stand := range stands() {
		for _, s := range []string{"input x;", "input X;", "array a 3;", "array A 3;", "keep S; X = S; A[p] = S;"} {
			lets(t, in(stand, s))
		}
	}
}

// G1: a Return of main, of a public function and of a secret one, in each block.
func TestG1CheckReturn(t *testing.T) {
	for _, block := range []string{"@", "x = 1; @ print 2;", "if 1 { @ }", "if 1 { } else { @ }", "while 1 { @ }", "while 1 { if 2 { } else { while 3 { if 4 { @ } } } }"} {
		for _, s := range secretTexts() {
			b := in(block, "return "+s+";")
			refuses(t, funcs+b)
			for _, name := range []string{"g", "gG", "aB", "z"} {
				refuses(t, funcs+"func "+name+"() { "+b+" }")
				refuses(t, "func "+name+"(X) { "+b+" } "+funcs+"func H() { } print 1;")
			}
			for _, name := range []string{"G", "Gg", "Z", "A"} {
				lets(t, funcs+"func "+name+"() { "+b+" }")
				lets(t, "func "+name+"(x) { "+b+" } "+funcs+"func h() { } return 1;")
				refuses(t, funcs+"func "+name+"() { "+b+" } "+b)
				refuses(t, funcs+"func "+name+"() { "+b+" } func h() { "+b+" }")
				refuses(t, funcs+"func h() { "+b+" } func "+name+"() { "+b+" }")
			}
		}
		for _, s := range publicTexts() {
			b := in(block, "return "+s+";")
			lets(t, funcs+b+" func_ = 1;")
			lets(t, funcs+"func g() { "+b+" } func G() { "+b+" }")
		}
	}
}

// tellings are expressions inside of which a secret is told, though some of them
// are public themselves.
func tellings() []string {
	return []string{
		"a[S]", "A[S]", "a[A[1]]", "A[a[S]]", "a[1 + S]", "A[-S]", "a[F(1, 2)]",
		"(1 / S)", "(1 % S)", "(S / S)", "(S % S)", "(p / A[1])", "(p % F(1, 2))", "(p / (1 + S))", "(p % -S)",
		"f(S, 1)", "F(S, 1)", "f(A[1], S)", "F(F(1, 2), 1)", "f(1 + S, S)", "f(1, a[S])", "F(1, 1 / S)", "f(1, f(S, 1))", "f(f(1, f(1, F(S, 1))), 2)",
	}
}

// G1: what is told inside of an expression, wherever that stands, also where
// anything secret may be.
func TestG1CheckEachExpression(t *testing.T) {
	places := []string{"x = @;", "X = @;", "a[@] = 1;", "A[1] = @;", "print @;", "keep @;", "if @ { }", "while @ { }", "return @;"}
	for _, inner := range []string{
		"-@", "!@", "@ + S", "S - @", "@ * 1", "@ / 2", "S / @", "@ % 2", "S % @", "@ < 1", "1 == @", "@ & 1", "1 | @", "a[@]", "A[@]", "none(@)", "nowhere(@)", "f(@, 1)", "f(1, @)", "F(1, @)", "f(1, 2, @)", "f(1, 2, 3, @)",
		"(((S + 1) + 2) + !-!-(3 + (4 + (5 + @))))", "f(1, f(2, f(3, F(4, @))))",
	} {
		places = append(places, "keep "+inner+";")
	}
	for _, place := range places {
		for _, s := range tellings() {
			for _, stand := range stands() {
				refuses(t, in(stand, in(place, s)))
			}
		}
	}
}

// G1: Div and Mod: the first part may be secret, the second may not.
func TestG1CheckDivMod(t *testing.T) {
	for _, op := range []string{"/", "%"} {
		lets(t, "X = S "+op+" p;")
		lets(t, "X = S "+op+" 0;")
		lets(t, "keep (S "+op+" p) "+op+" q;")
		lets(t, "keep -(S + T) "+op+" (p "+op+" q);")
		lets(t, "keep p "+op+" q;")
		refuses(t, "x = S "+op+" p;")
		refuses(t, "X = p "+op+" S;")
		refuses(t, "X = S "+op+" S;")
		refuses(t, "keep p "+op+" (S "+op+" q);")
		refuses(t, "keep (p "+op+" S) "+op+" q;")
		for _, other := range []string{"+", "-", "*", "<", "==", "&", "|"} {
			lets(t, "keep p "+other+" S;")
			lets(t, "keep S "+other+" p;")
			refuses(t, "print p "+other+" S;")
			refuses(t, "print S "+other+" p;")
		}
	}
}

// G1: a place of a public array, and of a secret one, put to and read.
func TestG1CheckPlaces(t *testing.T) {
	for _, s := range []string{"a[i] = p;", "A[i] = p;", "A[i] = S;", "X = a[i];", "X = A[i];", "x = a[i];", "A[i] = A[i] + a[i];", "A[a[i]] = A[a[i]];", "keep A[a[i]];"} {
		lets(t, s)
		for _, secret := range []string{"I", "A[0]", "-I", "F()", "i + I"} {
			refuses(t, strings.ReplaceAll(s, "[i]", "["+secret+"]"))
		}
	}
	for _, s := range []string{"a[i] = S;", "x = A[i];", "a[i] = A[i];", "a[A[i]] = p;", "keep a[A[i]];", "keep A[A[i]];", "A[A[i]] = p;"} {
		refuses(t, s)
	}
}

// G1: each argument whose parameter there is: of more arguments than parameters,
// and of fewer, of a function that stands ahead, or behind, or around, and is
// public or secret; each one is p or S, as all texts of up to four of these say.
func TestG1CheckArguments(t *testing.T) {
	all := []string{""}
	for i := 0; len(all[i]) < 4; i++ {
		all = append(all, all[i]+"p", all[i]+"S")
	}
	for _, params := range all {
		for _, args := range all {
			tells := false
			for i := range min(len(params), len(args)) {
				tells = tells || params[i] == 'p' && args[i] == 'S'
			}
			for _, name := range []string{"g", "G"} {
				f := "func " + name + "(" + strings.Join(strings.Split(params, ""), ", ") + ") { @ } "
				call := "keep " + name + "(" + strings.Join(strings.Split(args, ""), ", ") + ");"
				for _, text := range []string{in(f, "") + call, in(f, call), in(f, "") + "func h() { " + call + " }", "func H() { if 1 { } else { " + call + " } } " + in(f, ""), in(f, "") + "keep -nowhere(" + call[5:len(call)-1] + ");"} {
					checks(t, program(t, text), tells, text)
				}
			}
		}
	}
}

// G1: of a function that there is not, nothing is asked, but in its parts.
func TestG1CheckNoFunction(t *testing.T) {
	for _, head := range []string{"", "func g(a) { } ", "func ff(a) { } func F(a) { } ", "f = 1; array f 1; "} {
		lets(t, head+"keep f(S);")
		lets(t, head+"x = f(S, T, 1);")
		lets(t, head+"print f(f(S));")
		lets(t, head+"keep 1 / f(S) + a[f(S)];")
		lets(t, head+"X = F2(S);")
		refuses(t, head+"x = F2(s);")
		refuses(t, head+"print f(a[S]);")
		refuses(t, head+"print f(1 / S);")
	}
	refuses(t, "keep f(S); func_ = f(1 % S);")
}

// G1: of two functions of one name the first, as to what a Call is asked; but
// what stands in the second is gone through as well.
func TestG1CheckTwoOfOneName(t *testing.T) {
	lets(t, "func f(A) { } func f(a) { } keep f(S);")
	refuses(t, "func f(a) { } func f(A) { } keep f(S);")
	lets(t, "func g(a) { } func f(A) { } func f(a) { } func f(a) { } keep f(S);")
	refuses(t, "func g(A) { } func f(a) { } func f(A) { } func f(A) { } keep f(S);")
	lets(t, "func f() { } func f(a) { } keep f(S);")
	lets(t, "func f(A) { keep f(S); } func f(a) { keep f(S); } keep f(S);")
	refuses(t, "func f(A, b) { } func f(a, B) { } keep f(1, S);")
	lets(t, "func f(A, b) { } func f(a, B) { } keep f(S, 1);")
	refuses(t, "func f(A) { } func f(a) { return S; }")
	refuses(t, "func f(A) { return S; } func f(a) { }")
	refuses(t, "func f(A) { } func f(a) { print S; }")
	lets(t, "func F(A) { return S; } func F(a) { return S; }")
	lets(t, "func F(A) { return S; } func F(a) { } keep F(S);")
	refuses(t, "func F(a) { return S; } func F(A) { } keep F(S);")
}

// G1: whole scripts that reckon with secrets, and keep what comes of it, are let
// through; and are not, if one thing in them is another.
func TestG1CheckScripts(t *testing.T) {
	const script = "func Mix(K, n) { i = 0; Out = 0; array T 8; while i < n { T[i % 8] = K * i + T[(i + 1) % 8]; Out = Out + T[i % 8] / (i + 1); i = i + 1; } return Out; } " +
		"func pace(P, n) { i = 0; while i < n { P = P + i; i = i + 1; } return clock - n; } " +
		"input Key; input n; array a 4; a[0] = n; if a[0] < 9 { n = pace(Key, a[n % 4]); } else { Key = Mix(Key, n); } keep Mix(Key, n) & 255; print n + clock; return n;"
	lets(t, script)
	for from, to := range map[string]string{
		"i < n { T": "Out < n { T", "T[i % 8] = K": "T[K % 8] = K", "/ (i + 1)": "/ (Out + 1)", "func Mix": "func mix", "return clock - n": "return P", "array T 8": "array T 8; print K", "i = i + 1; } return c": "i = i + P; } return c",
		"a[0] = n": "a[0] = Key", "if a[0]": "if Key", "a[n % 4]": "a[Key % 4]", "pace(Key, a[n % 4])": "pace(n, Key)", "n = pace(Key": "n = Mix(Key", "keep Mix(Key, n) &": "keep Mix(Key, Key) &", "print n + clock": "print n + Key", "; return n;": "; return Key;",
	} {
		text := strings.Replace(script, from, to, 1)
		if text == script {
			t.Errorf("%q is nowhere", from)
		}
		refuses(t, text)
	}
	lets(t, strings.ReplaceAll(strings.ReplaceAll(script, "Mix", "mix"), "return Out", "return n"))
}

// G1: a program of nothing, and one without secret names.
func TestG1CheckNothingSecret(t *testing.T) {
	lets(t, "")
	checks(t, api.Program{}, false, "nothing")
	checks(t, api.Program{Funcs: []api.Func{{}, {}}, Main: []api.Stmt{}}, false, "functions of nothing")
	for _, s := range append(secretTexts(), tellings()...) {
		s = strings.ToLower(s)
		for _, place := range []string{"x = @;", "a[@] = @;", "print @;", "keep @;", "return @;", "if @ { print @; } else { while @ { return @; } }"} {
			lets(t, in("func f(a, b) { return @; } "+place, s))
		}
	}
	r := rand.New(rand.NewSource(73))
	for range 5000 {
		d := newDrawn(r)
		d.secret, d.wrong = 0, 0
		checks(t, d.program(), false, "drawn")
	}
}

// G1: anything, against a second way.
func TestG1CheckAnything(t *testing.T) {
	r, count := rand.New(rand.NewSource(74)), map[api.Errno]int{}
	for range 60000 {
		p := newDrawn(r).program()
		want := byFlows(p)
		if got := Check(p); got != want {
			t.Fatalf("%+v: %v, want %v", p, got, want)
		}
		count[want]++
	}
	if count[api.OK] < 10000 || count[api.ErrLabel] < 10000 {
		t.Error("too few of a kind:", count)
	}
}

// G1, R1, R4: what is handed in stays as it was, and is answered the same again.
func TestG1CheckLeavesAsItWas(t *testing.T) {
	draw := func() (l []api.Program) {
		r := rand.New(rand.NewSource(75))
		for range 3000 {
			l = append(l, newDrawn(r).program())
		}
		return l
	}
	l, was := draw(), draw()
	for i, p := range l {
		if Check(p) != Check(p) {
			t.Error(i)
		}
	}
	if !reflect.DeepEqual(l, was) {
		t.Error("changed")
	}
}
