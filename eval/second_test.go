package eval

import (
	"testing"

	"evenhand/api"
	"evenhand/code"
	"evenhand/compile"
)

// second is the chapter, told a second way: what was compiled is run, one instruction
// after the other, with a stack; numbers are reckoned as by reckon.
type second struct {
	code.Code
	asked
	now, cells int64
	clocked    int
	out        api.Outcome
}

// secondly is what a program does.
func secondly(p api.Program, a asked) api.Outcome {
	c, err := compile.Compile(p)
	if err != api.OK {
		return api.Outcome{Err: err}
	}
	a.fuel = min(max(a.fuel, 0), 1099511627776)
	a.quota = min(max(a.quota, 0), 1048576)
	s := &second{Code: c, asked: a}
	n := s.run(0, nil, 0)
	if s.out.Err == api.OK {
		s.out.Result = n
	}
	s.out.Clock = s.now
	return s.out
}

// price is what chapter 8 says that an instruction costs.
func price(op int) int64 {
	prices := map[string]int64{"mul": 3, "div": 8, "mod": 8, "call": 10, "return": 2, "print": 5, "keep": 5, "input": 4, "array": 20, "get": 3, "set": 3, "clock": 2}
	if n, ok := prices[code.Name(op)]; ok {
		return n
	}
	return 1
}

// activation is a function that is run.
type activation struct {
	stack, vars []int64
	arrays      [][]int64
}

func (a *activation) push(n int64) { a.stack = append(a.stack, n) }

func (a *activation) pop() int64 {
	n := a.stack[len(a.stack)-1]
	a.stack = a.stack[:len(a.stack)-1]
	return n
}

// run is what a function returns; nothing, if there is an error then.
func (s *second) run(fn int, args []int64, outer int) int64 {
	f := s.Fns[fn]
	a := &activation{vars: append(append([]int64{}, args...), make([]int64, f.Vars-len(args))...), arrays: make([][]int64, f.Arrays)}
	for at := 0; ; {
		in := f.L[at]
		s.now += price(in.Op)
		if s.now > s.fuel {
			s.out.Err = api.ErrFuel
			return 0
		}
		at++
		switch in.Op {
		case code.Jump:
			at = in.A
		case code.Zero:
			if a.pop() == 0 {
				at = in.A
			}
		case code.Return:
			return a.pop()
		case code.Call:
			if outer == 64 {
				s.out.Err = api.ErrDepth
				return 0
			}
			from := len(a.stack) - s.Fns[in.A].Params
			args := a.stack[from:]
			a.stack = a.stack[:from:from]
			a.push(s.run(in.A, args, outer+1))
		case code.Get, code.Set, code.Array:
			s.array(a, in)
		case code.Push, code.Load, code.Store, code.Input, code.Print, code.Keep, code.Clock:
			s.move(a, in)
		default:
			s.reckon(a, in)
		}
		if s.out.Err != api.OK {
			return 0
		}
	}
}

func (s *second) array(a *activation, in code.Ins) {
	l := a.arrays[in.A]
	if in.Op == code.Array {
		if s.cells += in.N; s.cells > s.quota {
			s.out.Err = api.ErrQuota
		}
		a.arrays[in.A] = make([]int64, in.N)
		return
	}
	var put int64
	if in.Op == code.Set {
		put = a.pop()
	}
	i := a.pop()
	switch {
	case i < 0 || i > int64(len(l))-1:
		s.out.Err = api.ErrTrap
	case in.Op == code.Set:
		l[i] = put
	default:
		a.push(l[i])
	}
}

func (s *second) move(a *activation, in code.Ins) {
	switch in.Op {
	case code.Push:
		a.push(in.N)
	case code.Load:
		a.push(a.vars[in.A])
	case code.Store:
		a.vars[in.A] = a.pop()
	case code.Input:
		l := []*[]int64{&s.public, &s.secret}[in.N]
		a.vars[in.A] = 0
		if len(*l) > 0 {
			a.vars[in.A], *l = (*l)[0], (*l)[1:]
		}
	case code.Print:
		s.out.Prints = append(s.out.Prints, a.pop())
	case code.Keep:
		s.out.Keeps = append(s.out.Keeps, a.pop())
	case code.Clock:
		n := s.now
		if s.given {
			n = 0
			if s.clocked < len(s.oracle) {
				n = s.oracle[s.clocked]
			}
		}
		s.clocked++
		s.out.Clocks = append(s.out.Clocks, n)
		a.push(n)
	}
}

func (s *second) reckon(a *activation, in code.Ins) {
	marks := map[int]string{
		code.Neg: "neg", code.Not: "not", code.Add: "+", code.Sub: "-", code.Mul: "*", code.Div: "/", code.Mod: "%", code.Less: "<", code.Same: "==", code.And: "&", code.Or: "|",
	}
	var two int64
	if in.Op != code.Neg && in.Op != code.Not {
		two = a.pop()
	}
	n, ok := reckon(marks[in.Op], a.pop(), two)
	if !ok {
		s.out.Err = api.ErrTrap
		return
	}
	a.push(n)
}

// isSame asks that both ways tell the same, and tells it.
func (a asked) isSame(t *testing.T, p api.Program, text string) api.Outcome {
	t.Helper()
	out, want := a.of(p), secondly(p, a)
	if told(out) != told(want) {
		t.Errorf("%.2000q: fuel %d, quota %d, %v %v, oracle %v %v: %.600s, want %.600s", text, a.fuel, a.quota, a.public, a.secret, a.oracle, a.given, told(out), told(want))
	}
	return out
}
