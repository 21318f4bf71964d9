package interp

import (
	"fmt"
	"slices"
	"testing"

	"evenhand/api"
	"evenhand/code"
)

// N1: a tier is asked at each Call, of the function and its arguments, in order; not of
// main.
func TestN1Asked(t *testing.T) {
	c := all("push 4, push 9, call 2, call 1, print, push 1, zero 9, push 0, return, call 1, return", "push 2, push 8, call 2, return", 0, "load 0, load 1, sub, call 3, return", 2, "load 0, return", 1)
	for _, x := range []*tells{{}, {fast: true}, {charge: 3}, {body: written("add")}} {
		with(x).of(c)
		if !slices.Equal(x.log, []string{"2 [4 9]", "3 [-5]", "1 []", "2 [2 8]", "3 [-6]"}) {
			t.Error(x.log)
		}
	}
	// Of each as often as it is called, with what its arguments are then.
	x := &tells{}
	with(x).of(all("push 3, store 0, load 0, zero 13, load 0, load 0, call 1, store 1, load 0, push 1, sub, store 0, jump 2"+over, "push 0, return", 2))
	if !slices.Equal(x.log, []string{"1 [3 3]", "1 [2 2]", "1 [1 1]"}) {
		t.Error(x.log)
	}
	// Of a function of each number of Params; the last argument is what was left last.
	for params := range 9 {
		x := &tells{}
		main, want := "push 70, push 71, ", []int64{}
		for i := range params {
			main += fmt.Sprint("push ", i, ", ")
			want = append(want, int64(i))
		}
		with(x).of(all(main+"call 1, return", "push 0, return", params))
		if !slices.Equal(x.log, []string{fmt.Sprint(1, want)}) {
			t.Error(params, x.log)
		}
	}
}

// N1, N2: it is not asked where no Call is done: its charge was refused, or it is one
// too many; nor of code that is not right.
func TestN1NotAsked(t *testing.T) {
	for fuel, want := range map[int64]int{9: 0, 10: 1, 19: 1, 20: 2, 640: 64, 650: 64, 100000: 64} {
		x := &tells{}
		a := with(x)
		a.fuel = fuel
		a.of(all("call 1, return", "call 1, return", 0))
		if len(x.log) != want {
			t.Errorf("%d: asked %d times, want %d", fuel, len(x.log), want)
		}
	}
	for _, c := range []code.Code{all("push 0, return", "call 1, return", 0), all("call 1, return", "return", 0), all("jump 2, call 1, push 0, return", "push 0, return", 0)} {
		x := &tells{}
		if with(x).of(c); len(x.log) != 0 {
			t.Error(x.log)
		}
	}
}

// N1: what is asked tells what was: it is asked at the Call, ahead of the body, and
// behind all that comes ahead of the Call.
func TestN1AskedInOrder(t *testing.T) {
	c := all("call 1, return", "input 0 0, load 0, call 2, load 0, add, print, call 3, return", 0, "input 1 0, load 0, load 1, add, return", 1, "push 0, return", 0)
	x := &tells{}
	with(x).does(t, c, "{[11] [] [] 58 0 error 0}")
	if !slices.Equal(x.log, []string{"1 []", "2 [3]", "3 []"}) {
		t.Error(x.log)
	}
}

// N1, R1: the arguments are a copy: who writes over it changes nothing, and it is never
// written over.
func TestN1ArgumentsAreACopy(t *testing.T) {
	c := all("push 4, push 9, call 1, print, push 5, push 6, call 1, print, push 1, push 2, push 3, push 4, print, print, print, print"+over, "push 30, push 20, push 7, store 0, load 0, load 1, sub, print, load 1, return", 2)
	var kept [][]int64
	wild := answers(func(_ int, args []int64) ([]code.Ins, bool, int64) {
		kept = append(kept, slices.Clone(args), args)
		_ = append(args, 99, 98, 97)
		return nil, false, 0
	})
	with(wild).does(t, c, "{[-2 9 1 6 4 3 2 1] [] [] 91 0 error 0}")
	if fmt.Sprint(kept) != "[[4 9] [4 9] [5 6] [5 6]]" {
		t.Error(kept)
	}
	wild = func(_ int, args []int64) ([]code.Ins, bool, int64) {
		clear(args[:cap(args)])
		return nil, false, 0
	}
	with(wild).does(t, c, "{[-2 9 1 6 4 3 2 1] [] [] 91 0 error 0}")
}

// N1: another body is run in the place of the function's own, with its arguments,
// variables and arrays; none, or one without instructions, is the function's own.
func TestN1Bodies(t *testing.T) {
	c := all("push 4, push 9, call 1, print"+over, "load 0, load 1, sub, return", 2, "push 77, return", 0)
	for s, want := range map[string]string{
		"": "{[-5] [] [] 25 0 error 0}", "push 1, return": "{[1] [] [] 23 0 error 0}", "load 1, return": "{[9] [] [] 23 0 error 0}", "load 1, load 0, sub, return": "{[5] [] [] 25 0 error 0}",
		"load 0, load 1, sub, return": "{[-5] [] [] 25 0 error 0}", "load 2, load 4, add, return": "{[0] [] [] 25 0 error 0}", "call 2, return": "{[77] [] [] 35 0 error 0}",
		"array 1 3, push 2, load 1, set 1, push 2, get 1, return": "{[9] [] [] 51 0 error 0}", "jump 3, push 1, return, jump 6, jump 1, return, load 0, print, jump 4": "{[4 1] [] [] 33 0 error 0}",
		"push 8, push 7, push 6, return": "{[6] [] [] 25 0 error 0}", "input 0 1, load 0, return, none, none": "{[8] [] [] 27 0 error 0}",
	} {
		with(only(1, written(s), false)).does(t, c, want)
	}
	with(only(1, []code.Ins{}, true)).does(t, c, "{[-5] [] [] 25 0 error 0}")
}

// wrong are bodies that are not right for a function of two Params, five variables and
// two arrays, in code of three functions, the third of which has one Param.
func wrong() []string {
	return []string{
		"return", "push 1", "none", "none, push 1, return", "add, return", "push 1, add, return", "push 1, zero 3, push 1, return", "push 1, zero 9, push 1, return", "load 5, return", "load -1, return",
		"push 1, store 5, push 1, return", "input 5 0, push 1, return", "input 0 2, push 1, return", "input 0 -1, push 1, return", "array 2 1, push 1, return", "array 0 0, push 1, return", "array 0 4097, push 1, return",
		"push 0, get 2, return", "push 0, get -1, return", "push 0, push 0, set 2, push 0, return", "call 0, return", "call 3, return", "call -1, return", "call 2, return", "push 1, call 1, return", "jump 1", "jump -1", "jump 5, push 1, return",
		"push 1, jump 0", "push 1, push 1, zero 0, return", "print, push 1, return", "push 1, print, return", "clock, clock, zero 4, push 1, push 1, return, return",
	}
}

// N1: a body that would not be right is not taken: the function's own is run, and is not
// fast; the charge is charged all the same.
func TestN1WrongBodies(t *testing.T) {
	c := all("push 4, push 9, call 1, print"+over, "load 0, load 1, sub, return", 2, "load 0, return", 1)
	for _, s := range wrong() {
		for _, fast := range []bool{false, true} {
			with(&tells{body: written(s), fast: fast, charge: 40}).does(t, c, "{[-5] [] [] 65 0 error 0}")
		}
	}
	// Places that are not reached are not looked at.
	body := written("push 1, return, jump 0, jump 9, none, load 9, add, call 0")
	with(&tells{body: body, charge: 40}).does(t, c, "{[1] [] [] 63 0 error 0}")
	with(&tells{body: body, charge: 40, fast: true}).does(t, c, "{[1] [] [] 62 0 error 0}")
}

// N1: a body is right, or not, by the function that it is told for: by its Params,
// variables and arrays, not by those of another one; and by its own places.
func TestN1RightForTheFunction(t *testing.T) {
	c := code.Code{Fns: []code.Fn{
		{L: written("call 1, print, push 1, push 2, call 2, print, push 5, call 3, print" + over)},
		{L: written("push 60, return")},
		{Params: 2, Vars: 2, L: written("push 61, return")},
		{Params: 1, Vars: 8, Arrays: 1, L: written("push 62, return")},
	}}
	for s, want := range map[string][]int64{
		"push 1, return": {1, 1, 1}, "load 0, return": {60, 1, 5}, "load 1, return": {60, 2, 0}, "load 2, return": {60, 61, 0}, "load 7, return": {60, 61, 0}, "load 8, return": {60, 61, 62},
		"array 0 1, push 0, get 0, return": {60, 61, 0}, "push 9, call 4, return": {60, 61, 62}, "jump 8, push 1, return": {60, 61, 62}, "jump 1, push 3, return": {3, 3, 3}, "load 0, neg, store 0, load 0, return": {60, -1, -5},
	} {
		a := with(&tells{body: written(s)})
		out := a.of(c)
		if out.Err != api.OK || !slices.Equal(out.Prints, want) {
			t.Errorf("%q: %s, want %d", s, told(out), want)
		}
	}
}

// N1: bodies call functions, themselves among them, by the Params of those.
func TestN1BodiesCall(t *testing.T) {
	c := all("push 5, call 1, print"+over, "push 60, return", 1, "load 0, load 1, sub, return", 2)
	for s, want := range map[string]string{
		"load 0, push 1, call 2, return": "{[4] [] [] 38 0 error 0}",
		"load 0, call 2, return":         "{[60] [] [] 22 0 error 0}",
		// It calls itself without end, but of 64 the last one can't call 2 either.
		"load 0, push 7, push 1, call 2, call 1, return": fmt.Sprintf("{[] [] [] %d 0 error 3}", 11+63*(3+10+5+10)+3+10),
	} {
		with(only(1, written(s), false)).does(t, c, want)
	}
	with(only(1, written(down), false)).does(t, c, fmt.Sprintf("{[7] [] [] %d 0 error 0}", 11+5*17+5+5+3))
}

// N2: who is fast is charged half: the steps of a body that was taken, not those of
// whom it calls, or of who calls it; the Call is a step of who calls.
func TestN2Fast(t *testing.T) {
	c := all("push 5, call 1, print"+over, "load 0, push 2, mul, call 2, return", 1, "load 0, push 3, div, return", 1)
	const main = 1 + 10 + 5 + 3
	slow1, fast1 := sum(c.Fns[1].L)
	slow2, fast2 := sum(c.Fns[2].L)
	for _, x := range []struct {
		tier Tier
		want int64
	}{
		{nil, slow1 + slow2}, {only(1, c.Fns[1].L, false), slow1 + slow2}, {only(2, c.Fns[2].L, false), slow1 + slow2},
		{only(1, c.Fns[1].L, true), fast1 + slow2}, {only(2, c.Fns[2].L, true), slow1 + fast2}, {only(0, c.Fns[0].L, true), slow1 + slow2},
		{answers(func(fn int, _ []int64) ([]code.Ins, bool, int64) { return c.Fns[fn].L, true, 0 }), fast1 + fast2},
		{answers(func(fn int, _ []int64) ([]code.Ins, bool, int64) { return nil, true, 0 }), slow1 + slow2},
	} {
		with(x.tier).does(t, c, fmt.Sprintf("{[3] [] [] %d 0 error 0}", main+x.want))
	}
}

// N2: what is fast is so for one call: a function that calls itself may be either, at
// each level; behind the inner call the outer one goes on as it was.
func TestN2FastByCall(t *testing.T) {
	c := all("push 3, call 1, print"+over, down, 1)
	for turns := range 16 {
		at := 0
		x := answers(func(fn int, _ []int64) ([]code.Ins, bool, int64) {
			fast := turns>>at&1 == 1
			at++
			return c.Fns[1].L, fast, 0
		})
		want := int64(1 + 10 + 5 + 3)
		for level := range 4 {
			steps := "load 0, zero 7, load 0, push 1, sub, call 1, return"
			if level == 3 {
				steps = "load 0, zero 7, push 7, return"
			}
			slow, fast := sum(written(steps))
			want += []int64{slow, fast}[turns>>level&1]
		}
		with(x).does(t, c, fmt.Sprintf("{[7] [] [] %d 0 error 0}", want))
	}
}

// N2: the tier's charge is on the clock ahead of the body's first step, and behind the
// Call's own.
func TestN2ChargeOnTheClock(t *testing.T) {
	c := all("clock, call 1, clock"+over, "clock, return", 0)
	for charge, want := range map[int64]string{0: "{[] [] [2 14 18] 21 0 error 0}", 100: "{[] [] [2 114 118] 121 0 error 0}", -100: "{[] [] [2 14 18] 21 0 error 0}"} {
		with(&tells{charge: charge}).does(t, c, want)
	}
	with(&tells{charge: 100, fast: true, body: c.Fns[1].L}).does(t, c, "{[] [] [2 113 116] 119 0 error 0}")
}

// N1: no tier is as one that tells nothing.
func TestN1NoTier(t *testing.T) {
	for _, c := range []code.Code{all("push 5, call 1, print"+over, down, 1), all("push 64, call 1, print"+over, down, 1), alone("push 5, return")} {
		none := told(enough().of(c))
		if got := told(with(&tells{}).of(c)); got != none {
			t.Errorf("%s, want %s", got, none)
		}
	}
}
