package eval

import (
	"math/big"
	"testing"

	"evenhand/api"
)

// M1: the chapter's example.
func TestM1Example(t *testing.T) {
	enough().does(t, "print 1 + 2;", "{[3] [] [] 11 0 error 0}")
}

// M1: a program of nothing: what stands behind the last statement is charged.
func TestM1Nothing(t *testing.T) {
	enough().does(t, "", "{[] [] [] 3 0 error 0}")
	for _, p := range []api.Program{{}, {Funcs: []api.Func{}, Main: []api.Stmt{}}, {Funcs: []api.Func{{Name: "f"}, {Name: "G", Params: []string{"a"}}}}} {
		if got := told(enough().of(p)); got != "{[] [] [] 3 0 error 0}" {
			t.Error(got)
		}
	}
	if got := told(Eval(api.Program{}, api.Inputs{}, 0, 0, nil, false)); got != "{[] [] [] 1 0 error 8}" {
		t.Error(got)
	}
}

// M1: Const is N, as great as it may be.
func TestM1Const(t *testing.T) {
	for _, n := range []int64{0, 1, 2, 4096, 1 << 32, most - 1, most} {
		prints(t, "print "+written(n)+";", n)
	}
}

// numbers are those at which operations change.
func numbers() []int64 {
	return []int64{least, least + 1, -1 << 32, -7, -3, -2, -1, 0, 1, 2, 3, 7, 1<<32 - 1, 1 << 32, 1 << 62, most - 1, most}
}

// round is what is left of a number in 64 bits.
func round(n *big.Int) int64 {
	low := new(big.Int).And(n, new(big.Int).SetUint64(1<<64-1))
	return int64(low.Uint64())
}

func truth(b bool) *big.Int {
	if b {
		return big.NewInt(1)
	}
	return big.NewInt(0)
}

// reckon is what chapter 1 says of two numbers (of one, if b is nothing to it), told
// by numbers that do not go round; false, where it says nothing.
func reckon(mark string, a, b int64) (int64, bool) {
	x, y, n := big.NewInt(a), big.NewInt(b), new(big.Int)
	if (mark == "/" || mark == "%") && b == 0 {
		return 0, false
	}
	switch mark {
	case "+":
		n.Add(x, y)
	case "-":
		n.Sub(x, y)
	case "*":
		n.Mul(x, y)
	case "/":
		n.Quo(x, y)
	case "%":
		n.Rem(x, y)
	case "<":
		n = truth(x.Cmp(y) < 0)
	case "==":
		n = truth(x.Cmp(y) == 0)
	case "&":
		n.And(x, y)
	case "|":
		n.Or(x, y)
	case "neg":
		n.Neg(x)
	case "not":
		n = truth(x.Sign() == 0)
	}
	return round(n), true
}

// M1: operations of two: of the first part and the second, in this order; a trap, if
// there is no such number.
func TestM1OfTwo(t *testing.T) {
	for _, mark := range []string{"+", "-", "*", "/", "%", "<", "==", "&", "|"} {
		for _, a := range numbers() {
			for _, b := range numbers() {
				s := "x = " + written(a) + "; y = " + written(b) + "; print 9; print x " + mark + " y; print 8;"
				want, ok := reckon(mark, a, b)
				if ok {
					prints(t, s, 9, want, 8)
					continue
				}
				if out := enough().of(program(t, s)); told(out)[:8] != "{[9] [] " || out.Err != api.ErrTrap {
					t.Errorf("%q: %s", s, told(out))
				}
			}
		}
	}
}

// M1: operations of one.
func TestM1OfOne(t *testing.T) {
	for _, a := range numbers() {
		neg, _ := reckon("neg", a, 0)
		not, _ := reckon("not", a, 0)
		prints(t, "x = "+written(a)+"; print -x; print !x;", neg, not)
	}
	prints(t, "print --3; print !!3; print -!0; print !-0;", 3, 1, -1, 1)
}

// M1: what each expression costs, with its parts; they stand in x = ..; that is 1.
func TestM1ExprCosts(t *testing.T) {
	for s, want := range map[string]int64{
		"1": 1, "y": 1, "X": 1, "clock": 2, "-1": 2, "!1": 2, "1 + 2": 3, "1 - 2": 3, "1 * 2": 5, "1 / 2": 10, "1 % 2": 10, "1 < 2": 3, "1 == 2": 3, "1 & 2": 3, "1 | 2": 3,
		"-y": 2, "clock + clock": 5, "1 + 2 * 3": 7, "(1 + 2) * 3": 7, "--!1": 4, "clock * y / 3 % 4": 2 + 1 + 3 + 1 + 8 + 1 + 8,
	} {
		costs(t, "x = "+s+";", want+1)
		costs(t, "x = y; x = "+s+"; x = "+s+";", 2+2*(want+1))
	}
	costs(t, "array a 9; x = a[1];", 20+1+3+1)
	costs(t, "array a 9; x = a[a[2] + 1];", 20+1+3+1+1+3+1)
}

// M1: parts are reckoned in order, each ahead of what is made of it: the first of two
// that ask the clock is told less.
func TestM1Order(t *testing.T) {
	enough().does(t, "print clock - clock;", "{[-2] [] [2 4] 13 0 error 0}")
	enough().does(t, "print 1 + clock * clock;", "{[16] [] [3 5] 17 0 error 0}")
	enough().does(t, "func f(a, b, c) { return a * 10000 + b * 100 + c; } print f(clock, clock + 1, clock);", "{[20508] [] [2 4 8] 41 0 error 0}")
	prints(t, "func f(n) { print n; return n; } x = f(1) + f(2) * f(3); print x;", 1, 2, 3, 7)
	prints(t, "func f(n) { print n; return n; } func g(a, b, c, d) { print 9; } x = g(f(1), f(2) - f(3), 7, f(4));", 1, 2, 3, 4, 9)
	prints(t, "func f(n) { print n; return n; } array a 5; a[f(3)] = f(4); print a[f(2) + f(1)];", 3, 4, 2, 1, 4)
	// What is reckoned first is not changed by what is reckoned behind it.
	prints(t, "array a 2; x = 1; y = x + 0 * x; x = 5; print y; a[0] = a[0] + 1; print a[0];", 1, 1)
}

// M1: all parts are reckoned, also where the number does not hang on them.
func TestM1AllParts(t *testing.T) {
	prints(t, "func f(n) { print n; return n; } x = 0 & f(1); x = f(0) * f(2); x = 1 | f(3); x = 0 / f(4);", 1, 0, 2, 3, 4)
	ends(t, "x = 0 & 1 / 0;", api.ErrTrap, 1+1+1+8)
	ends(t, "x = 0 * (1 % 0);", api.ErrTrap, 1+1+1+8)
}

// M1: Var: 0 till it is set, then what it was set to last.
func TestM1Var(t *testing.T) {
	prints(t, "print x; x = 5; print x; x = x + x; print x; print X; X = 2; print x; print X;", 0, 5, 10, 0, 10, 2)
	prints(t, "f = 1; g = 2; print f; print g; func1 = 3; print func1;", 1, 2, 3)
	l := names("v", 64)
	prints(t, each(l, "@ = @ + 1;")+" v3 = 77; print v0; print v3; print v4; print v63;", 1, 77, 1, 1)
}

// M1: Clock: what the meter tells, behind what is charged for it.
func TestM1Clock(t *testing.T) {
	enough().does(t, "print clock; x = clock; print clock - x;", "{[2 3] [] [2 9 12] 22 0 error 0}")
	enough().does(t, "keep clock; input x; keep clock;", "{[] [2 13] [2 13] 21 0 error 0}")
	enough().does(t, "func f() { return clock; } x = clock; print f() - x;", "{[13] [] [2 15] 27 0 error 0}")
	enough().does(t, "x = clock; x = 1 / 0;", "{[] [] [2] 13 0 error 7}")
}

// M1: Index: the number at a place; a trap, if there is none.
func TestM1Index(t *testing.T) {
	prints(t, "array a 3; print a[0]; print a[2]; a[1] = 7; print a[1]; print a[0]; print a[a[1] - 5];", 0, 0, 7, 0, 0)
	for _, n := range []int64{-1, 3, 4, 4096, 1 << 32, 1<<32 + 1, most, least, -1 << 32} {
		s := "array a 3; array b 9; print 5; x = " + written(n) + "; print a[x]; print 6;"
		if out := enough().of(program(t, s)); told(out)[:8] != "{[5] [] " || out.Err != api.ErrTrap {
			t.Errorf("%q: %s", s, told(out))
		}
	}
	ends(t, "array a 3; x = a[3];", api.ErrTrap, 20+1+3)
	ends(t, "array a 4096; x = a[4096];", api.ErrQuota, 20)
	ends(t, "array b 3; if 0 { array a 3; } x = a[0];", api.ErrTrap, 20+2+1+3)
}
