package verify

import (
	"fmt"
	"math/rand"
	"testing"

	"evenhand/api"
	"evenhand/code"
)

// right is the chapter, told a second way: all pairs of a place and a depth are
// gathered, to which any way through a function leads.
func right(c code.Code) bool {
	if len(c.Fns) == 0 || len(c.Fns) > 33 || c.Fns[0].Params != 0 {
		return false
	}
	for _, f := range c.Fns {
		if f.Params < 0 || f.Params > 8 || f.Vars < 0 || f.Vars > 64 || f.Arrays < 0 || f.Arrays > 64 || f.Params > f.Vars || len(f.L) == 0 {
			return false
		}
	}
	for _, f := range c.Fns {
		if !rightFn(f, c.Fns) {
			return false
		}
	}
	return true
}

type pair struct{ at, depth int }

func rightFn(f code.Fn, all []code.Fn) bool {
	pairs := map[pair]bool{{0, 0}: true}
	todo := []pair{{0, 0}}
	for len(todo) > 0 {
		x := todo[len(todo)-1]
		todo = todo[:len(todo)-1]
		l, ok := behind(f, all, x)
		if !ok {
			return false
		}
		for _, y := range l {
			// Deeper than there are places: one of them was come by twice on the
			// way, with two depths.
			if y.at < 0 || y.at >= len(f.L) || y.depth > len(f.L) {
				return false
			}
			if !pairs[y] {
				pairs[y] = true
				todo = append(todo, y)
			}
		}
	}
	places := map[int]bool{}
	for x := range pairs {
		places[x.at] = true
	}
	return len(places) == len(pairs)
}

// behind are the pairs to which one leads by its instruction; false, if that is
// not right.
func behind(f code.Fn, all []code.Fn, x pair) ([]pair, bool) {
	in := f.L[x.at]
	takes, leaves, known := 0, 0, false
	for _, k := range kinds() {
		if k.op == in.Op {
			takes, leaves, known = k.takes, k.leaves, true
		}
	}
	has := func(n int) bool { return in.A >= 0 && in.A < n }
	switch in.Op {
	case code.Load, code.Store:
		known = has(f.Vars)
	case code.Input:
		known = has(f.Vars) && (in.N == 0 || in.N == 1)
	case code.Array:
		known = has(f.Arrays) && in.N > 0 && in.N < 4097
	case code.Get, code.Set:
		known = has(f.Arrays)
	case code.Call:
		if known = in.A != 0 && has(len(all)); known {
			takes, leaves = all[in.A].Params, 1
		}
	}
	if !known || takes > x.depth {
		return nil, false
	}
	next := pair{x.at + 1, x.depth - takes + leaves}
	switch in.Op {
	case code.Return:
		return nil, true
	case code.Jump:
		return []pair{{in.A, next.depth}}, true
	case code.Zero:
		return []pair{{in.A, next.depth}, next}, true
	}
	return []pair{next}, true
}

// tally counts what was right, and what was not.
type tally struct{ right, wrong int }

// both asks that both ways say the same of code.
func (n *tally) both(t *testing.T, c code.Code) {
	t.Helper()
	want := right(c)
	if got := Code(c); got != api.OK && got != api.ErrCode || want != (got == api.OK) {
		t.Errorf("%v, want %v:\n%s", got, want, told(c))
	}
	if want {
		n.right++
	} else {
		n.wrong++
	}
}

func (n *tally) enough(t *testing.T, least int) {
	t.Helper()
	if n.right < least || n.wrong < least {
		t.Errorf("%d right and %d wrong alone", n.right, n.wrong)
	}
}

// walk goes a way through a function of right code, at each Zero one or the
// other: it takes no number from an empty stack, never goes on behind the end,
// and comes by each place with one depth.
func walk(t *testing.T, r *rand.Rand, f code.Fn, all []code.Fn) {
	t.Helper()
	depths := map[int]int{}
	x := pair{}
	for range 300 {
		if was, ok := depths[x.at]; ok && was != x.depth {
			t.Errorf("at %d with %d, and with %d:\n%s", x.at, was, x.depth, told(fns(f)))
			return
		}
		depths[x.at] = x.depth
		l, ok := behind(f, all, x)
		if !ok {
			t.Errorf("at %d with %d:\n%s", x.at, x.depth, told(fns(f)))
			return
		}
		if len(l) == 0 {
			return
		}
		if x = l[r.Intn(len(l))]; x.at < 0 || x.at >= len(f.L) {
			t.Errorf("goes on at %d:\n%s", x.at, told(fns(f)))
			return
		}
	}
}

// The second way sees what is wrong: else it would prove nothing.
func TestJ1SecondWay(t *testing.T) {
	for _, x := range []struct {
		l    []code.Ins
		want bool
	}{
		{end(), true}, {nil, false}, {list(ins(code.Return)), false}, {list(push()), false}, {list(push(), push(), ins(code.Set, 1), end()), true},
		{list(push(), push(), ins(code.Set, 2), end()), false}, {list(push(), ins(code.Jump, 0)), false}, {list(ins(code.Jump, 0)), true},
		{list(push(), ins(code.Zero, 1), end()), false}, {list(push(), ins(code.Zero, 0), end()), true}, {list(ins(code.Call, 3), end()), false},
		{list(push(), push(), ins(code.Call, 3), ins(code.Return)), true}, {list(push(), push(), ins(code.Call, 0), ins(code.Return)), false},
	} {
		if got := right(with(x.l)); got != x.want {
			t.Error(fmt.Sprint(x.l), got)
		}
	}
}
