package interp

import (
	"fmt"
	"slices"
	"testing"

	"evenhand/api"
	"evenhand/code"
	"evenhand/verify"
)

// second is the chapter, told a second way: a call is a function that calls itself, an
// array is a list of its own, and numbers are reckoned as by reckon.
type second struct {
	code.Code
	asked
	now, cells int64
	out        api.Outcome
}

// secondly is what code does.
func (a asked) secondly(c code.Code) api.Outcome {
	if verify.Code(c) != api.OK {
		return api.Outcome{Err: api.ErrCode}
	}
	a.fuel = min(max(a.fuel, 0), 1099511627776)
	a.quota = min(max(a.quota, 0), 1048576)
	s := &second{Code: c, asked: a}
	n := s.call(0, c.Fns[0].L, false, nil, 0)
	if s.out.Err == api.OK {
		s.out.Result = n
	}
	s.out.Clock = s.now
	return s.out
}

// pay tells whether all goes on.
func (s *second) pay(n int64) bool {
	s.now += n
	if s.now > s.fuel {
		s.out.Err = api.ErrFuel
	}
	return s.out.Err == api.OK
}

// activation is a function that is run.
type activation struct {
	stack  []int64
	vars   map[int]int64
	arrays map[int][]int64
}

func (a *activation) push(n int64) { a.stack = append(a.stack, n) }

func (a *activation) pop() int64 {
	n := a.stack[len(a.stack)-1]
	a.stack = a.stack[:len(a.stack)-1]
	return n
}

// call is what a function returns, run by that body; nothing, if there is an error then.
func (s *second) call(fn int, l []code.Ins, fast bool, args []int64, outer int) int64 {
	a := &activation{vars: map[int]int64{}, arrays: map[int][]int64{}}
	for i, n := range args {
		a.vars[i] = n
	}
	for at := 0; ; {
		in := l[at]
		slow, half := sum(l[at : at+1])
		if fast {
			slow = half
		}
		if !s.pay(slow) {
			return 0
		}
		at++
		switch in.Op {
		case code.Jump:
			at = in.A
		case code.Zero:
			if a.pop() == 0 {
				at = in.A
			}
		case code.Return:
			return a.pop()
		case code.Call:
			from := len(a.stack) - s.Fns[in.A].Params
			args := slices.Clone(a.stack[from:])
			a.stack = a.stack[:from]
			a.push(s.inner(in.A, args, outer))
		case code.Get, code.Set, code.Array:
			s.array(a, in)
		case code.Push, code.Load, code.Store, code.Input, code.Print, code.Keep, code.Clock:
			s.move(a, in)
		default:
			s.reckon(a, in)
		}
		if s.out.Err != api.OK {
			return 0
		}
	}
}

// inner does a Call within so many.
func (s *second) inner(fn int, args []int64, outer int) int64 {
	if outer == 64 {
		s.out.Err = api.ErrDepth
		return 0
	}
	body, fast, charge := []code.Ins(nil), false, int64(0)
	if s.tier != nil {
		body, fast, charge = s.tier.Enter(fn, slices.Clone(args))
	}
	if charge > 1099511627776 {
		charge = 1099511627776
	}
	if charge > 0 && !s.pay(charge) {
		return 0
	}
	changed := cloned(s.Code)
	if changed.Fns[fn].L = body; body == nil || verify.Code(changed) != api.OK {
		return s.call(fn, s.Fns[fn].L, false, args, outer+1)
	}
	return s.call(fn, slices.Clone(body), fast, args, outer+1)
}

func (s *second) array(a *activation, in code.Ins) {
	l := a.arrays[in.A]
	if in.Op == code.Array {
		if s.cells += in.N; s.cells > s.quota {
			s.out.Err = api.ErrQuota
		}
		a.arrays[in.A] = make([]int64, in.N)
		return
	}
	var put int64
	if in.Op == code.Set {
		put = a.pop()
	}
	i := a.pop()
	switch {
	case i < 0 || i > int64(len(l))-1:
		s.out.Err = api.ErrTrap
	case in.Op == code.Set:
		l[i] = put
	default:
		a.push(l[i])
	}
}

func (s *second) move(a *activation, in code.Ins) {
	switch in.Op {
	case code.Push:
		a.push(in.N)
	case code.Load:
		a.push(a.vars[in.A])
	case code.Store:
		a.vars[in.A] = a.pop()
	case code.Input:
		l := []*[]int64{&s.public, &s.secret}[in.N]
		a.vars[in.A] = 0
		if len(*l) > 0 {
			a.vars[in.A], *l = (*l)[0], (*l)[1:]
		}
	case code.Print:
		s.out.Prints = append(s.out.Prints, a.pop())
	case code.Keep:
		s.out.Keeps = append(s.out.Keeps, a.pop())
	case code.Clock:
		s.out.Clocks = append(s.out.Clocks, s.now)
		a.push(s.now)
	}
}

func (s *second) reckon(a *activation, in code.Ins) {
	var two int64
	if in.Op != code.Neg && in.Op != code.Not {
		two = a.pop()
	}
	n, ok := reckon(code.Name(in.Op), a.pop(), two)
	if !ok {
		s.out.Err = api.ErrTrap
		return
	}
	a.push(n)
}

// isSame asks that both ways tell the same, and ask their tiers the same, and tells it.
// The tiers are made anew for each.
func (a asked) isSame(t *testing.T, c code.Code, tier func() *moody) api.Outcome {
	t.Helper()
	one, two := tier(), tier()
	was := cloned(c)
	if one != nil {
		a.tier = one
	}
	out := a.of(c)
	if two != nil {
		a.tier = two
	}
	want := a.secondly(c)
	if told(out) != told(want) {
		t.Errorf("%sfuel %d, quota %d, %v %v: %.600s, want %.600s", shown(c), a.fuel, a.quota, a.public, a.secret, told(out), told(want))
	}
	if one != nil && !slices.Equal(one.log, two.log) {
		t.Errorf("%sasks %.600s, want %.600s", shown(c), fmt.Sprint(one.log), fmt.Sprint(two.log))
	}
	if fmt.Sprint(was) != fmt.Sprint(c) {
		t.Errorf("%sis not as it was", shown(c))
	}
	return out
}
