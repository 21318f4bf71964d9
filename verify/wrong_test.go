package verify

import (
	"math"
	"math/rand"
	"slices"
	"testing"

	"evenhand/api"
	"evenhand/code"
)

// J1: ops that are not known.
func TestJ1WrongOps(t *testing.T) {
	for _, op := range notKnown() {
		for depth := range 4 {
			for _, in := range []code.Ins{ins(op), ins(op, 0, 1), ins(op, 1, 1)} {
				mainIs(t, false, times(depth, push()), in, end())
				mainIs(t, false, push(), zero(4), end(), times(depth, push()), in, end())
				asks(t, fns(code.Fn{L: end()}, code.Fn{Vars: 2, Arrays: 2, L: list(times(depth, push()), in, end())}), false, op)
			}
		}
		mainIs(t, false, push(), ins(op))
		mainIs(t, false, ins(op))
	}
	for op := -70000; op <= 70000; op++ {
		if c := with(list(times(2, push()), ins(op, 1, 1), end())); op < 1 || op > 25 {
			if got := Code(c); got != api.ErrCode {
				t.Errorf("%d: %v", op, got)
			}
		}
	}
}

// J1, R2: numbers as large and as small as may be, wherever one may stand:
// nothing panics, all ends.
func TestJ1WildNumbers(t *testing.T) {
	l := append(far(), 0, 1, 2, 8, 64)
	var n tally
	for _, a := range l {
		for _, b := range l {
			for op := 0; op <= 26; op++ {
				n.both(t, with(list(push(), push(), code.Ins{Op: op, A: a, N: int64(b)}, end())))
			}
			n.both(t, with(list(code.Ins{Op: a, A: b, N: int64(a)}, end())))
			for _, f := range []code.Fn{
				{Params: a, Vars: b, L: end()}, {Params: a, Vars: 64, Arrays: b, L: end()}, {Vars: a, Arrays: b, L: end()},
				{Vars: a, Arrays: a, L: list(ins(code.Load, b), ins(code.Store, b), end())}, {Vars: a, Arrays: a, L: list(ins(code.Array, b, 1), end())},
			} {
				caller := code.Fn{L: list(push(), ins(code.Call, 1), ins(code.Return))}
				n.both(t, fns(f))
				n.both(t, fns(caller, f))
				n.both(t, fns(code.Fn{L: end()}, f, caller))
			}
		}
	}
	n.enough(t, 100)
}

// J1, R2: code of anything whatever.
func TestJ1Rubbish(t *testing.T) {
	r := rand.New(rand.NewSource(77))
	l := append(append(far(), notKnown()...), 0, 1, 2, 3, 8, 64)
	number := func() int {
		if r.Intn(3) == 0 {
			return l[r.Intn(len(l))]
		}
		return r.Intn(30) - 2
	}
	for range 30000 {
		var c code.Code
		for range r.Intn(40) {
			f := code.Fn{Params: number(), Vars: number(), Arrays: number()}
			if r.Intn(2) == 0 {
				f.Params, f.Vars, f.Arrays = 0, 3, 3
			}
			for range r.Intn(10) {
				f.L = append(f.L, code.Ins{Op: number(), A: number(), N: int64(number())})
			}
			c.Fns = append(c.Fns, f)
		}
		want := api.ErrCode
		if right(c) {
			want = api.OK
		}
		if got := Code(c); got != want {
			t.Errorf("%v, want %v:\n%s", got, want, told(c))
		}
	}
}

// J1, R2: long functions: straight on, back by each place, and as deep as they
// are long.
func TestJ1Long(t *testing.T) {
	const size = 200000
	mainIs(t, true, times(size, push()), ins(code.Return))
	mainIs(t, false, times(size, push()))
	mainIs(t, true, times(size, push()), times(size, ins(code.Print)), end())
	mainIs(t, false, times(size, push()), times(size+1, ins(code.Print)), end())
	mainIs(t, true, times(size, ins(code.Input)), jump(0))
	mainIs(t, true, times(size, ins(code.Input)), jump(size-1))
	mainIs(t, false, times(size, ins(code.Input)), push(), jump(0))

	// The first place goes to the end, and each place to the one ahead of it.
	back := list(jump(size))
	for at := 1; at < size; at++ {
		back = append(back, jump(at-1))
	}
	mainIs(t, true, back, jump(size-1))
	mainIs(t, false, back, push(), jump(size-1))

	// Zeros, each of which goes to the end.
	var ways []code.Ins
	for range size / 2 {
		ways = append(ways, push(), zero(size))
	}
	mainIs(t, true, ways, end())
	mainIs(t, false, ways, ins(code.Print), end())
	ways[size-1].A = size + 1
	mainIs(t, false, ways, end())
	mainIs(t, true, ways, ins(code.Input), end())
	for range 32 {
		if got := Code(fns(slices.Repeat([]code.Fn{{L: list(times(3000, push()), ins(code.Return))}}, 33)...)); got != api.OK {
			t.Fatal(got)
		}
	}
}

// forks are places that wait all at once: each Zero leads to two more of them, so
// many levels, and at the last level stands this.
func forks(l []code.Ins, levels int, last ...code.Ins) []code.Ins {
	if levels == 0 {
		return append(l, last...)
	}
	l = append(l, push(), ins(code.Zero))
	at := len(l)
	l = forks(l, levels-1, last...)
	l[at-1].A = len(l)
	return forks(l, levels-1, last...)
}

// J1, R2: there is room for all places that wait.
func TestJ1ManyWait(t *testing.T) {
	for _, levels := range []int{1, 2, 5, 11, 16} {
		l := forks(nil, levels, end()...)
		asks(t, with(l), true, levels)
		for _, at := range []int{0, len(l) / 2, len(l) - 1} {
			wrong := slices.Clone(l)
			wrong[at].Op = 0
			asks(t, with(wrong), false, levels, " at ", at)
		}
		asks(t, with(forks(nil, levels, jump(0))), true, levels)
		asks(t, with(forks(nil, levels, push(), jump(0))), false, levels)
	}
}

// J1, R1: the room behind lists stays as it was, and means nothing.
func TestJ1LeftAlone(t *testing.T) {
	room := list(end(), ins(99, 99, 99), end(), jump(-1))
	was := slices.Clone(room)
	all := []code.Fn{{L: room[:2]}, {L: room[:1]}, {Params: -1}}
	for range 3 {
		if got := Code(code.Code{Fns: all[:1]}); got != api.OK {
			t.Error(got)
		}
		if got := Code(code.Code{Fns: all[:2]}); got != api.ErrCode {
			t.Error(got)
		}
	}
	if !slices.Equal(room, was) || len(all[2].L) != 0 || all[2].Params != -1 {
		t.Error("the room has become another")
	}
}

// J1, R1, R4: nothing is kept from call to call: what is right is told of what is
// handed in then.
func TestJ1NotKept(t *testing.T) {
	c := with(end())
	for _, x := range []struct {
		op   int
		want api.Errno
	}{{code.Push, api.OK}, {code.Add, api.ErrCode}, {code.Clock, api.OK}, {0, api.ErrCode}, {math.MaxInt, api.ErrCode}, {code.Push, api.OK}} {
		c.Fns[0].L[0].Op = x.op
		if got := Code(c); got != x.want {
			t.Errorf("%d: %v, want %v", x.op, got, x.want)
		}
	}
}
