package wrap

import (
	"math"
	"math/big"
	"strings"
	"testing"

	"evenhand/api"
)

const (
	least = math.MinInt64
	most  = math.MaxInt64
)

// edges are held against each other, all with all, in the tests of A1.
func edges() []int64 {
	return []int64{
		least, least + 1, least + 2, least / 2, least/2 - 1, -1 << 33, -1 << 32, -1 << 31, -1000, -12, -10, -7, -3, -2, -1,
		0, 1, 2, 3, 7, 10, 12, 1000, 1 << 31, 1<<32 - 1, 1 << 32, 1<<32 + 1, 3037000499, 3037000500, most / 2, most/2 + 1, most - 1, most,
	}
}

// goRound is what is left of n in 64 bits with a sign.
func goRound(n *big.Int) int64 {
	m := new(big.Int).And(n, new(big.Int).SetUint64(math.MaxUint64))
	return int64(m.Uint64())
}

// exact reckons an op with numbers that have no bounds; false if it tells nothing.
func exact(op int, a, b int64) (int64, bool) {
	x, y, z := big.NewInt(a), big.NewInt(b), new(big.Int)
	one := func(yes bool) int64 {
		if yes {
			return 1
		}
		return 0
	}
	switch op {
	case api.Neg:
		return goRound(z.Sub(z, x)), true
	case api.Not:
		return one(x.Sign() == 0), true
	case api.Add:
		return goRound(z.Add(x, y)), true
	case api.Sub:
		return goRound(z.Sub(x, y)), true
	case api.Mul:
		return goRound(z.Mul(x, y)), true
	case api.Less:
		return one(x.Cmp(y) < 0), true
	case api.Same:
		return one(x.Cmp(y) == 0), true
	case api.And:
		return goRound(z.And(x, y)), true
	case api.Or:
		return goRound(z.Or(x, y)), true
	}
	if y.Sign() == 0 || op != api.Div && op != api.Mod {
		return 0, false
	}
	if op == api.Div {
		return goRound(z.Quo(x, y)), true
	}
	return goRound(z.Rem(x, y)), true
}

// face calls the exported function of an op, by which Do must tell the same.
func face(op int, a, b int64) (int64, bool) {
	switch op {
	case api.Neg:
		return Neg(a), true
	case api.Not:
		return Not(a), true
	case api.Div:
		return Div(a, b)
	case api.Mod:
		return Mod(a, b)
	}
	two := map[int]func(a, b int64) int64{
		api.Add: Add, api.Sub: Sub, api.Mul: Mul, api.Less: Less, api.Same: Same, api.And: And, api.Or: Or,
	}
	return two[op](a, b), true
}

// A1: each operation, and Do of it, is what numbers without bounds leave.
func TestA1EdgesAgainstExactNumbers(t *testing.T) {
	for op := api.Neg; op <= api.Or; op++ {
		for _, a := range edges() {
			for _, b := range edges() {
				want, ok := exact(op, a, b)
				if got, k := Do(op, a, b); got != want || k != ok {
					t.Errorf("Do(%d, %d, %d): %d %v, want %d %v", op, a, b, got, k, want, ok)
				}
				if got, k := face(op, a, b); got != want || k != ok {
					t.Errorf("op %d of %d, %d: %d %v, want %d %v", op, a, b, got, k, want, ok)
				}
			}
		}
	}
}

// A1: answers that are written out, so that they do not hang on another reckoning.
func TestA1WrittenOut(t *testing.T) {
	for _, x := range []struct {
		what       string
		op         int
		a, b, want int64
	}{
		{"sum", api.Add, 2, 3, 5},
		{"the sum goes round upwards", api.Add, most, 1, least},
		{"the sum goes round downwards", api.Add, least, -1, most},
		{"difference", api.Sub, 2, 5, -3},
		{"the difference goes round", api.Sub, least, 1, most},
		{"0 less the least number", api.Sub, 0, least, least},
		{"product", api.Mul, -3, 4, -12},
		{"the product goes round to nought", api.Mul, 1 << 32, 1 << 32, 0},
		{"the least number times -1", api.Mul, least, -1, least},
		{"the greatest number twice", api.Mul, most, 2, -2},
		{"negative", api.Neg, 5, 0, -5},
		{"negative of nought", api.Neg, 0, 0, 0},
		{"negative of the least number", api.Neg, least, 0, least},
		{"not of 0", api.Not, 0, 0, 1},
		{"not of 1", api.Not, 1, 0, 0},
		{"not of what is neither 0 nor 1", api.Not, -2, 0, 0},
		{"not of what has no low bits", api.Not, least, 0, 0},
		{"below", api.Less, -1, 0, 1},
		{"not below itself", api.Less, 4, 4, 0},
		{"above", api.Less, 5, 4, 0},
		{"the sign counts", api.Less, least, most, 1},
		{"far apart", api.Less, most, least, 0},
		{"same", api.Same, -4, -4, 1},
		{"not same", api.Same, 4, -4, 0},
		{"same in the low bits alone", api.Same, 1 << 32, 0, 0},
		{"and, bit by bit", api.And, 12, 10, 8},
		{"and of no shared bit is 0", api.And, 1, 2, 0},
		{"and with the sign", api.And, -1, least, least},
		{"or, bit by bit", api.Or, 12, 10, 14},
		{"or of truths is no truth", api.Or, 1, 2, 3},
		{"or with the sign", api.Or, least, 1, least + 1},
		{"quotient", api.Div, 7, 2, 3},
		{"rounded to nought, the first below 0", api.Div, -7, 2, -3},
		{"rounded to nought, the second below 0", api.Div, 7, -2, -3},
		{"rounded to nought, both below 0", api.Div, -7, -2, 3},
		{"below 0, rounded to nought itself", api.Div, -1, 2, 0},
		{"nought by a number", api.Div, 0, -5, 0},
		{"the least number by -1", api.Div, least, -1, least},
		{"the least number by 1", api.Div, least, 1, least},
		{"the least number by itself", api.Div, least, least, 1},
		{"the greatest by the least", api.Div, most, least, 0},
		{"what is left", api.Mod, 7, 2, 1},
		{"what is left has the sign of the first, below 0", api.Mod, -7, 2, -1},
		{"what is left has the sign of the first, above 0", api.Mod, 7, -2, 1},
		{"what is left, both below 0", api.Mod, -7, -2, -1},
		{"nothing is left", api.Mod, -6, 3, 0},
		{"nothing is left of the least number by -1", api.Mod, least, -1, 0},
		{"all is left", api.Mod, most, least, most},
	} {
		if got, ok := Do(x.op, x.a, x.b); got != x.want || !ok {
			t.Errorf("%s: Do(%d, %d, %d) is %d %v, want %d", x.what, x.op, x.a, x.b, got, ok, x.want)
		}
		if got, ok := face(x.op, x.a, x.b); got != x.want || !ok {
			t.Errorf("%s: op %d of %d, %d is %d %v, want %d", x.what, x.op, x.a, x.b, got, ok, x.want)
		}
	}
}

// A1: by 0 there is no number, and the answer beside false is 0.
func TestA1DivisionByNought(t *testing.T) {
	for _, a := range edges() {
		for what, f := range map[string]func() (int64, bool){
			"Div":     func() (int64, bool) { return Div(a, 0) },
			"Mod":     func() (int64, bool) { return Mod(a, 0) },
			"Do, Div": func() (int64, bool) { return Do(api.Div, a, 0) },
			"Do, Mod": func() (int64, bool) { return Do(api.Mod, a, 0) },
		} {
			if got, ok := f(); got != 0 || ok {
				t.Errorf("%s of %d by 0: %d %v", what, a, got, ok)
			}
		}
	}
}

// A1: an op that is none tells 0 and false, also those of expressions that are no operations.
func TestA1NoOperation(t *testing.T) {
	for _, op := range []int{
		0, api.Const, api.Var, api.Clock, api.Index, api.Call, api.Or + 1, 18, 32, 256 + api.Add, 1<<32 + api.Add,
		-1, -api.Add, math.MinInt, math.MaxInt,
	} {
		for _, b := range []int64{least, -1, 0, 1, 7} {
			if got, ok := Do(op, 7, b); got != 0 || ok {
				t.Errorf("Do(%d, 7, %d): %d %v", op, b, got, ok)
			}
		}
	}
}

// A1: Neg and Not are told whatever b is.
func TestA1OneNumberAlone(t *testing.T) {
	for _, op := range []int{api.Neg, api.Not} {
		for _, a := range edges() {
			want, _ := Do(op, a, 0)
			for _, b := range edges() {
				if got, ok := Do(op, a, b); got != want || !ok {
					t.Errorf("Do(%d, %d, %d): %d %v, want %d", op, a, b, got, ok, want)
				}
			}
		}
	}
}

// A1: what is added may be taken away again; a quotient and what is left make up the number.
func TestA1WhatFollows(t *testing.T) {
	for _, a := range edges() {
		for _, b := range edges() {
			if got := Sub(Add(a, b), b); got != a {
				t.Errorf("%d and %d, less it: %d", a, b, got)
			}
			q, ok := Div(a, b)
			r, _ := Mod(a, b)
			if got := Add(Mul(q, b), r); ok && got != a {
				t.Errorf("%d by %d: %d, and %d is left", a, b, q, r)
			}
		}
	}
}

// A2: the texts of numbers from 0 on are read back; those below 0 are told alone.
func TestA2TextsOfNumbers(t *testing.T) {
	for s, n := range map[string]int64{
		"0": 0, "1": 1, "9": 9, "10": 10, "99": 99, "100": 100, "101": 101, "1234567890": 1234567890, "4294967296": 1 << 32,
		"999999999999999999": 999999999999999999, "1000000000000000000": 1000000000000000000,
		"9223372036854775799": 9223372036854775799, "9223372036854775800": 9223372036854775800,
		"9223372036854775806": most - 1, "9223372036854775807": most,
	} {
		if got := Text(n); got != s {
			t.Errorf("Text(%d): %q", n, got)
		}
		if got, ok := Parse(s); got != n || !ok {
			t.Errorf("Parse(%q): %d %v", s, got, ok)
		}
	}
	for s, n := range map[string]int64{
		"-1": -1, "-9": -9, "-10": -10, "-4294967296": -1 << 32, "-9223372036854775807": -most, "-9223372036854775808": least,
	} {
		if got := Text(n); got != s {
			t.Errorf("Text(%d): %q", n, got)
		}
		if got, ok := Parse(s); got != 0 || ok {
			t.Errorf("Parse(%q): %d %v", s, got, ok)
		}
	}
}

// A2: Text is what numbers without bounds tell, and Parse is its inverse from 0 on.
func TestA2ThereAndBack(t *testing.T) {
	var l []int64
	for p := int64(1); p > 0 && p <= most/10; p *= 10 {
		l = append(l, p-1, p, p+1, 9*p-1, 9*p)
	}
	for _, n := range append(l, edges()...) {
		s := Text(n)
		if want := big.NewInt(n).String(); s != want {
			t.Errorf("Text(%d): %q, want %q", n, s, want)
		}
		got, ok := Parse(s)
		if n < 0 && (got != 0 || ok) || n >= 0 && (got != n || !ok) {
			t.Errorf("Parse(%q): %d %v", s, got, ok)
		}
	}
}

// A2: what is the text of no number from 0 on tells 0 and false.
func TestA2NoNumber(t *testing.T) {
	for _, s := range []string{
		"", " ", "-", "+", "-0", "-1", "+0", "+1", "--1",
		"00", "01", "007", "0000000000", "09223372036854775807", "0x1f", "0b1", "0o7",
		" 1", "1 ", "1\n", "\t1", "1 2", "1_000", "1,000", "1.0", ".5", "1e3", "1E3", "a", "1a", "a1", "/", ":", "1/", "1:",
		"9223372036854775808", "9223372036854775809", "9223372036854775810", "9223372036854775817", "9999999999999999999",
		"18446744073709551615", "18446744073709551616", "18446744073709551617", "36893488147419103239",
		"10000000000000000000", "92233720368547758070", "99999999999999999999", "340282366920938463463374607431768211456",
		"\xff", "1\xff", "\xb1", "\x00", "1\x00", "1\x001", "\u0663", "1\u0663", "\uff13", "\u00b2", "\u00bd",
		strings.Repeat("0", 1000), strings.Repeat("9", 1000), "1" + strings.Repeat("0", 100000),
	} {
		if got, ok := Parse(s); got != 0 || ok {
			t.Errorf("Parse(%.40q): %d %v", s, got, ok)
		}
	}
}

// A2: of short texts Parse knows just those that Text tells.
func TestA2AllShortTexts(t *testing.T) {
	known := map[string]int64{}
	for n := int64(0); n < 100; n++ {
		known[Text(n)] = n
	}
	check := func(s string) {
		want, is := known[s]
		if got, ok := Parse(s); got != want || ok != is {
			t.Errorf("Parse(%q): %d %v, want %d %v", s, got, ok, want, is)
		}
	}
	for a := 0; a < 256; a++ {
		check(string([]byte{byte(a)}))
		for b := 0; b < 256; b++ {
			check(string([]byte{byte(a), byte(b)}))
		}
	}
}
