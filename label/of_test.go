package label

import (
	"math/rand"
	"reflect"
	"slices"
	"testing"

	"evenhand/api"
)

// someNames are names, whether they are secret, and what is no name at all.
func someNames() map[string]bool {
	return map[string]bool{
		"X": true, "A": true, "Z": true, "M": true, "Xy": true, "XY": true, "A_1": true, "X\x00": true, "IF": true, "Func": true, "A b": true, "A\xff": true,
		"x": false, "a": false, "z": false, "xY": false, "aZ": false, "x_X": false, "if": false, "func": false,
		"": false, "_": false, "_X": false, "0": false, "0X": false, " X": false, "-X": false, "\x00X": false, "\x80X": false, "\xc1": false, "\xc1A": false, "\xff": false,
		"@": false, "@A": false, "[": false, "[A": false, "`": false, "{": false, "Ä": false, "Ω": false, "Ａ": false,
	}
}

// isNamed tells whether an op's own name counts.
func isNamed(op int) bool { return op == api.Var || op == api.Index || op == api.Call }

func isOf(t *testing.T, e api.Expr, want bool, what ...any) {
	t.Helper()
	if got := Of(e); got != want {
		t.Errorf("%v: %v, want %v", what, got, want)
	}
}

// secrets that may stand as parts, each in another way, and what is public.
func someSecrets() []api.Expr {
	return []api.Expr{
		ref("S"), of(api.Index, "A", ref("i")), of(api.Index, "a", ref("I")), of(api.Call, "F"), of(api.Call, "F", ref("x")),
		of(api.Neg, "", ref("S")), of(api.Mul, "", ref("x"), ref("S")), of(api.Less, "", of(api.Call, "F"), ref("x")), of(api.Div, "", ref("x"), ref("S")),
	}
}

func somePublics() []api.Expr {
	return []api.Expr{
		ref("s"), of(api.Index, "a", ref("i")), of(api.Call, "f"), of(api.Call, "f", ref("S"), of(api.Call, "F")), {Op: api.Const, N: 5}, {Op: api.Clock},
		of(api.Neg, "", of(api.Call, "f", ref("S"))), of(api.Add, "", ref("x"), ref("y")), {},
	}
}

// G1: by the name, of a Var, an Index and a Call; of nothing else.
func TestG1OfNames(t *testing.T) {
	for _, op := range exprOps() {
		for name, great := range someNames() {
			want := great && isNamed(op)
			isOf(t, of(op, name), want, op, name)
			isOf(t, api.Expr{Op: op, Name: name, N: 7, L: []api.Expr{}}, want, op, name, "no parts")
			for n := range 4 {
				isOf(t, of(op, name, oneSecret(n, n, api.Expr{})...), want, op, name, n, "public parts")
			}
		}
	}
}

// G1: by one of the parts, at any place, of all but a Call.
func TestG1OfParts(t *testing.T) {
	for _, op := range exprOps() {
		for n := 1; n < 10; n++ {
			for at := range n {
				for i, s := range someSecrets() {
					isOf(t, of(op, "x", oneSecret(n, at, s)...), op != api.Call, op, n, at, i)
					isOf(t, of(op, "", oneSecret(n, at, s)...), op != api.Call, op, n, at, i, "no name")
					isOf(t, of(op, "X", oneSecret(n, at, s)...), true, op, n, at, i, "secret name")
				}
				for i, s := range somePublics() {
					isOf(t, of(op, "x", oneSecret(n, at, s)...), false, op, n, at, i, "public")
					isOf(t, of(op, "X", oneSecret(n, at, s)...), isNamed(op), op, n, at, i, "public, secret name")
				}
			}
		}
		isOf(t, of(op, "x", ref("S"), ref("T"), of(api.Call, "F")), op != api.Call, op, "all secret")
	}
}

// G1: a Call is by its name alone, whatever it is called with, and wherever it
// stands.
func TestG1OfCalls(t *testing.T) {
	for _, x := range []struct {
		e    api.Expr
		want bool
	}{
		{of(api.Call, "f", ref("S")), false}, {of(api.Call, "F", ref("s")), true}, {of(api.Call, "F", ref("S")), true}, {of(api.Call, "f"), false}, {of(api.Call, "F"), true},
		{of(api.Call, "f", of(api.Call, "F")), false}, {of(api.Call, "F", of(api.Call, "f")), true}, {of(api.Call, "", ref("S")), false}, {of(api.Call, "_F", ref("S")), false},
		{of(api.Add, "", of(api.Call, "f", ref("S")), ref("s")), false}, {of(api.Add, "", of(api.Call, "f", ref("S")), ref("S")), true}, {of(api.Add, "", ref("S"), of(api.Call, "f", ref("S"))), true},
		{of(api.Index, "a", of(api.Call, "f", ref("S"))), false}, {of(api.Index, "a", of(api.Call, "F")), true}, {of(api.Index, "A", of(api.Call, "f")), true},
		{of(api.Neg, "", of(api.Call, "f", of(api.Neg, "", of(api.Call, "F", ref("S"))))), false}, {of(api.Neg, "", of(api.Call, "F", of(api.Neg, "", of(api.Call, "f", ref("S"))))), true},
	} {
		isOf(t, x.e, x.want, x.e)
	}
}

// G1: deep in deep, of each op, and of any; a Call on the way decides.
func TestG1OfDeep(t *testing.T) {
	r := rand.New(rand.NewSource(7))
	for _, depth := range []int{1, 2, 3, 20, 64, 1000, 9000} {
		for _, op := range exprOps() {
			e, s := ref("p"), ref("S")
			for range depth {
				at := r.Intn(2)
				e, s = of(op, "x", oneSecret(2, at, e)...), of(op, "x", oneSecret(2, at, s)...)
			}
			isOf(t, e, false, depth, op, "public")
			isOf(t, s, op != api.Call, depth, op)
		}
		for _, last := range []string{"f", "F"} {
			e, call := ref("S"), r.Intn(depth)
			for i := range depth {
				name, op := "x", 6+r.Intn(11)
				if i == call {
					name, op = last, api.Call
				}
				n := 1 + r.Intn(4)
				e = of(op, name, oneSecret(n, r.Intn(n), e)...)
			}
			isOf(t, e, last == "F", depth, "a call", last)
		}
	}
}

// G1: anything, against the names that are seen in it.
func TestG1OfAnything(t *testing.T) {
	r, count := rand.New(rand.NewSource(71)), map[bool]int{}
	for range 30000 {
		e := newDrawn(r).exprs(1, 4)[0]
		want := slices.ContainsFunc(seenIn(e), great)
		isOf(t, e, want, e)
		count[want]++
	}
	if count[true] < 3000 || count[false] < 3000 {
		t.Error("too few of a kind:", count)
	}
}

// G1, R1, R4: what is handed in stays as it was, and is answered the same again.
func TestG1OfLeavesAsItWas(t *testing.T) {
	draw := func() []api.Expr { return drawn{rand.New(rand.NewSource(72)), 0.1, 0.2}.exprs(2000, 4) }
	l, was := draw(), draw()
	for i, e := range l {
		if Of(e) != Of(e) {
			t.Error(i)
		}
	}
	if !reflect.DeepEqual(l, was) {
		t.Error("changed")
	}
}

// G1: as many parts as are promised of; none of it panics.
func TestG1OfMany(t *testing.T) {
	const n = 300000
	for _, op := range []int{0, api.Var, api.Index, api.Call, api.Or} {
		isOf(t, of(op, "x", oneSecret(n, n, ref("S"))...), false, op)
		isOf(t, of(op, "x", oneSecret(n, n-1, ref("S"))...), op != api.Call, op)
	}
	isOf(t, api.Expr{}, false, "nothing")
	isOf(t, api.Expr{Op: api.Index, Name: "a"}, false, "no place")
	isOf(t, api.Expr{Op: api.Index, Name: "A"}, true, "no place")
}
