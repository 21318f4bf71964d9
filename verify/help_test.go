package verify

import (
	"fmt"
	"math"
	"reflect"
	"slices"
	"testing"

	"evenhand/api"
	"evenhand/code"
)

// kind is what chapter 8 says that an instruction takes and leaves, written out.
type kind struct{ op, takes, leaves int }

// kinds are all but Call, whose numbers hang on the function.
func kinds() []kind {
	return []kind{
		{code.Push, 0, 1}, {code.Load, 0, 1}, {code.Store, 1, 0}, {code.Neg, 1, 1}, {code.Not, 1, 1},
		{code.Add, 2, 1}, {code.Sub, 2, 1}, {code.Mul, 2, 1}, {code.Div, 2, 1}, {code.Mod, 2, 1},
		{code.Less, 2, 1}, {code.Same, 2, 1}, {code.And, 2, 1}, {code.Or, 2, 1},
		{code.Jump, 0, 0}, {code.Zero, 1, 0}, {code.Return, 1, 0}, {code.Print, 1, 0}, {code.Keep, 1, 0},
		{code.Input, 0, 0}, {code.Array, 0, 0}, {code.Get, 1, 1}, {code.Set, 2, 0}, {code.Clock, 0, 1},
	}
}

// notKnown are ops of which there is nothing; among them such as would be one,
// were they cut to fewer bits, or turned.
func notKnown() []int {
	l := []int{0, 26, 27, 50, 99, 127, 128, 254, 255, 256, 1000, math.MaxInt, math.MaxInt - 1, math.MinInt, math.MinInt + 1}
	for op := 1; op <= 25; op++ {
		l = append(l, -op, 128+op, 256+op, op-256, 1<<16+op, 1<<31+op, 1<<32+op, op-1<<32, math.MinInt+op)
	}
	return l
}

// far are numbers as large, and as small, as may be; among them such as would be
// small ones, were they cut to fewer bits.
func far() []int {
	return []int{math.MinInt, math.MinInt + 1, -1 << 32, -1<<32 + 1, -1 << 31, -65536, -256, -100, -2, -1, 100, 255, 256, 257, 4097, 65536, 65537, math.MaxInt32, 1 << 31, 1 << 32, 1<<32 + 1, math.MaxInt - 1, math.MaxInt}
}

func ins(op int, a ...int) code.Ins {
	in := code.Ins{Op: op}
	if len(a) > 0 {
		in.A = a[0]
	}
	if len(a) > 1 {
		in.N = int64(a[1])
	}
	return in
}

func push() code.Ins { return ins(code.Push) }

func times(n int, in code.Ins) []code.Ins { return slices.Repeat([]code.Ins{in}, n) }

// end is what may stand behind whatever is right.
func end() []code.Ins { return []code.Ins{push(), ins(code.Return)} }

func list(parts ...any) (l []code.Ins) {
	for _, x := range parts {
		switch x := x.(type) {
		case code.Ins:
			l = append(l, x)
		case []code.Ins:
			l = append(l, x...)
		}
	}
	return l
}

// with is code whose main, with three variables and two arrays, has these
// instructions; of the functions behind it the i-th one has i - 1 Params.
func with(l []code.Ins) code.Code {
	fns := []code.Fn{{Vars: 3, Arrays: 2, L: l}}
	for n := range 9 {
		fns = append(fns, code.Fn{Name: fmt.Sprint("f", n), Params: n, Vars: n, L: end()})
	}
	return code.Code{Fns: fns}
}

func fns(l ...code.Fn) code.Code { return code.Code{Fns: l} }

func copied(c code.Code) code.Code {
	c.Fns = slices.Clone(c.Fns)
	for i := range c.Fns {
		c.Fns[i].L = slices.Clone(c.Fns[i].L)
	}
	return c
}

func told(c code.Code) string {
	s := ""
	for _, f := range c.Fns {
		s += fmt.Sprintf("%d %d %d: %v\n", f.Params, f.Vars, f.Arrays, f.L[:min(len(f.L), 40)])
	}
	return s[:min(len(s), 600)]
}

// asks whether code is right: that is answered, again too, and the code stays as
// it was.
func asks(t *testing.T, c code.Code, right bool, what ...any) {
	t.Helper()
	want := api.ErrCode
	if right {
		want = api.OK
	}
	before := copied(c)
	got, again := Code(c), Code(c)
	if got != want || again != want {
		t.Errorf("%s: %v, and %v, want %v:\n%s", fmt.Sprint(what...), got, again, want, told(c))
	}
	if !reflect.DeepEqual(c, before) {
		t.Errorf("%s: is not as it was", fmt.Sprint(what...))
	}
}

func mainIs(t *testing.T, right bool, parts ...any) {
	t.Helper()
	asks(t, with(list(parts...)), right)
}

// mainLeaves asks that behind these instructions the depth is just this: so many
// may be printed, and not one more.
func mainLeaves(t *testing.T, depth int, parts ...any) {
	t.Helper()
	for n := max(0, depth-2); n <= depth+2; n++ {
		asks(t, with(list(list(parts...), times(n, ins(code.Print)), end())), n <= depth, n, " of ", depth)
	}
}
