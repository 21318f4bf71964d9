package interp

import (
	"fmt"
	"math/big"
	"testing"

	"evenhand/api"
	"evenhand/code"
)

// N2: the chapter's example.
func TestN2Example(t *testing.T) {
	enough().does(t, alone("push 1, push 2, add, print, push 0, return"), "{[3] [] [] 11 0 error 0}")
}

// N2: the least code: Return of main ends all, and its number is the result.
func TestN2Result(t *testing.T) {
	for _, n := range []int64{0, 1, -1, 77, least, most} {
		enough().does(t, code.Code{Fns: []code.Fn{{L: written("push " + text(n) + ", return")}}}, "{[] [] [] 3 "+text(n)+" error 0}")
	}
	// It takes what was left last, whatever else is left; what stands behind is not done.
	enough().does(t, alone("push 5, push 6, push 7, return, push 8, print, push 9, return"), "{[] [] [] 5 7 error 0}")
	enough().does(t, alone("push 4, print, input 1 1, load 1, return"), "{[4] [] [] 13 8 error 0}")
}

// numbers are those at which operators change.
func numbers() []int64 {
	return []int64{least, least + 1, -1 << 32, -7, -3, -2, -1, 0, 1, 2, 3, 7, 1<<32 - 1, 1 << 32, 1 << 62, most - 1, most}
}

// round is what is left of a number in 64 bits.
func round(n *big.Int) int64 {
	low := new(big.Int).And(n, new(big.Int).SetUint64(1<<64-1))
	return int64(low.Uint64())
}

func truth(b bool) *big.Int {
	if b {
		return big.NewInt(1)
	}
	return big.NewInt(0)
}

// reckon is what chapter 1 says of two numbers (of the first alone, if the name is
// neg or not), told by numbers that do not go round; false, where it says nothing.
func reckon(name string, a, b int64) (int64, bool) {
	x, y, n := big.NewInt(a), big.NewInt(b), new(big.Int)
	if (name == "div" || name == "mod") && b == 0 {
		return 0, false
	}
	switch name {
	case "neg":
		n.Neg(x)
	case "not":
		n = truth(x.Sign() == 0)
	case "add":
		n.Add(x, y)
	case "sub":
		n.Sub(x, y)
	case "mul":
		n.Mul(x, y)
	case "div":
		n.Quo(x, y)
	case "mod":
		n.Rem(x, y)
	case "less":
		n = truth(x.Cmp(y) < 0)
	case "same":
		n = truth(x.Cmp(y) == 0)
	case "and":
		n.And(x, y)
	case "or":
		n.Or(x, y)
	}
	return round(n), true
}

// N2: operators of two: the one that was left first is the first; a trap, if there is
// no such number. What is left below stays.
func TestN2OfTwo(t *testing.T) {
	for _, name := range []string{"add", "sub", "mul", "div", "mod", "less", "same", "and", "or"} {
		for _, a := range numbers() {
			for _, b := range numbers() {
				c := alone(fmt.Sprint("push 9, print, push 6, push ", a, ", push ", b, ", ", name, ", print, print", over))
				if want, ok := reckon(name, a, b); ok {
					printed(t, c, 9, want, 6)
				} else if out := enough().of(c); told(out) != fmt.Sprint("{[9] [] [] ", 6+3+8, " 0 error 7}") {
					t.Errorf("%d %s %d: %s", a, name, b, told(out))
				}
			}
		}
	}
}

// N2: operators of one; what is left below stays.
func TestN2OfOne(t *testing.T) {
	for _, a := range numbers() {
		neg, _ := reckon("neg", a, 0)
		not, _ := reckon("not", a, 0)
		prints(t, fmt.Sprint("push 6, push ", a, ", neg, print, push ", a, ", not, print, print", over), neg, not, 6)
	}
	prints(t, "push 3, neg, neg, print, push 3, not, not, print, push 0, not, neg, print"+over, 3, 1, -1)
}

// N2: a trap is told as one, also where its first number is 0.
func TestN2NoNumber(t *testing.T) {
	for _, name := range []string{"div", "mod"} {
		for _, a := range numbers() {
			ends(t, alone(fmt.Sprint("push ", a, ", push 0, ", name, over)), api.ErrTrap, 10)
		}
		prints(t, "push 0, push 5, "+name+", print"+over, 0)
	}
}

// N2: variables: 0 at first, then what they were set to last; each its own.
func TestN2Variables(t *testing.T) {
	prints(t, "load 0, print, load 2, print, push 5, store 1, load 1, print, load 0, print, load 1, load 1, add, store 1, load 1, print, load 2, print"+over, 0, 0, 5, 0, 10, 0)
	c := code.Code{Fns: []code.Fn{{Vars: 64}}}
	var want []int64
	for i := range 64 {
		c.Fns[0].L = append(c.Fns[0].L, written(fmt.Sprint("push ", i*i, ", store ", i))...)
		want = append(want, int64(i*i))
	}
	for i := range 64 {
		c.Fns[0].L = append(c.Fns[0].L, written(fmt.Sprint("load ", i, ", print"))...)
	}
	c.Fns[0].L = append(c.Fns[0].L, written(over)...)
	printed(t, c, want...)
}

// N2: what is printed, and kept, in order, each to its list.
func TestN2Tells(t *testing.T) {
	enough().does(t, alone("push 1, push 2, push 3, print, keep, print, push 4, keep"+over), "{[3 1] [2 4] [] 27 0 error 0}")
	enough().does(t, alone("push 1, keep, push 1, print, push 1, print"+over), "{[1 1] [1] [] 21 0 error 0}")
}

// N2: Clock: what the meter tells, what it costs itself included; it is left, and told.
func TestN2Clock(t *testing.T) {
	enough().does(t, alone("clock, clock, print, print"+over), "{[4 2] [] [2 4] 17 0 error 0}")
	enough().does(t, alone("clock, keep, input 0, clock, return"), "{[] [2] [2 13] 15 13 error 0}")
	enough().does(t, alone("array 1 3, clock, push 0, div, clock"+over), "{[] [] [22] 31 0 error 7}")
}

// N2: Jump goes on at A; Zero too, of 0 alone, and takes what it asks.
func TestN2Ways(t *testing.T) {
	prints(t, "jump 3, push 1, print, push 2, print"+over, 2)
	prints(t, "jump 4, push 1, print, jump 6, push 2, jump 2"+over, 2)
	for _, n := range numbers() {
		want := []int64{1, 7, 2}
		if n == 0 {
			want = []int64{7, 2}
		}
		prints(t, fmt.Sprint("push 7, push ", n, ", zero 5, push 1, print, print, push 2, print", over), want...)
	}
	// Counts down from 3; Zero's A may be ahead of it, too.
	enough().does(t, alone("push 3, store 0, load 0, zero 11, load 0, print, load 0, push 1, sub, store 0, jump 2, push 0, return"), "{[3 2 1] [] [] 46 0 error 0}")
	enough().does(t, alone("load 0, print, load 0, push 1, add, store 0, load 0, push 3, same, zero 0"+over), "{[0 1 2] [] [] 45 0 error 0}")
	// A jump to the next place, and a Zero likewise, change nothing.
	prints(t, "jump 1, push 0, zero 3, push 1, zero 5, push 4, print"+over, 4)
}

// N2: Input sets the variable to the next number: a public one, if N is 0, else a
// secret one; 0, if there is none more. Each list goes on by itself.
func TestN2Inputs(t *testing.T) {
	prints(t, "input 0 0, input 1 1, input 2 0, load 0, print, load 1, print, load 2, print, input 0 1, load 0, print"+over, 3, 8, 5, 13)
	prints(t, "input 0 0, input 0 0, load 0, print, input 0 0, load 0, print, input 0 1, load 0, print, input 0 0, load 0, print"+over, 5, 0, 8, 0)
	prints(t, "input 0 1, input 0 1, load 0, print, input 0 1, load 0, print, input 0 1, load 0, print, input 0 0, load 0, print"+over, 13, 0, 0, 3)
	a := enough()
	a.public, a.secret = nil, []int64{}
	a.does(t, alone("push 5, store 0, input 0 0, load 0, print, push 5, store 0, input 0 1, load 0, print"+over), "{[0 0] [] [] 27 0 error 0}")
	a.public, a.secret = []int64{least, most}, []int64{0, 0, -1}
	a.does(t, alone("input 0 0, load 0, print, input 0 0, load 0, print, input 0 1, input 0 1, input 0 1, load 0, keep"+over), "{[-9223372036854775808 9223372036854775807] [-1] [] 41 0 error 0}")
}

// sum is what each instruction costs, by chapter 8, and what it costs when it is fast.
func sum(l []code.Ins) (slow, fast int64) {
	prices := map[string]int64{"mul": 3, "div": 8, "mod": 8, "call": 10, "return": 2, "print": 5, "keep": 5, "input": 4, "array": 20, "get": 3, "set": 3, "clock": 2}
	for _, in := range l {
		n := int64(1)
		if p, ok := prices[code.Name(in.Op)]; ok {
			n = p
		}
		slow += n
		fast += n/2 + n%2
	}
	return slow, fast
}

// N2: what all instructions cost, in main, in a function, and in a body that was
// taken, be it fast or not.
func TestN2Costs(t *testing.T) {
	for _, s := range []string{
		"", "push 1, print", "load 0, print", "push 1, store 0", "push 1, neg, print", "push 1, not, print", "push 1, push 1, add, print", "push 1, push 1, sub, print", "push 1, push 1, mul, print",
		"push 1, push 1, div, print", "push 1, push 1, mod, print", "push 1, push 1, less, print", "push 1, push 1, same, print", "push 1, push 1, and, print", "push 1, push 1, or, print",
		"jump 1", "push 1, zero 0", "push 0, zero 2", "push 1, keep", "input 0 0", "input 0 1", "array 0 1", "array 0 4096", "array 0 9, push 1, get 0, print", "array 0 9, push 1, push 5, set 0", "clock, print",
	} {
		main := written(s + over)
		if slow, _ := sum(main); enough().of(alone(s+over)).Clock != slow {
			t.Errorf("%q: costs %d, want %d", s, enough().of(alone(s+over)).Clock, slow)
		}
		caller, _ := sum(written("call 1, return"))
		slow, fast := sum(main)
		for _, x := range []struct {
			c    code.Code
			tier Tier
			want int64
		}{
			{all("call 1, return", s+over, 0), nil, slow},
			{all("call 1, return", s+over, 0), &tells{}, slow},
			{all("call 1, return", s+over, 0), &tells{fast: true}, slow},
			{all("call 1, return", over, 0), &tells{body: main}, slow},
			{all("call 1, return", over, 0), &tells{body: main, fast: true}, fast},
			{all("call 1, return", s+over, 0), &tells{body: main, fast: true}, fast},
		} {
			if out := with(x.tier).of(x.c); out.Err != api.OK || out.Clock != caller+x.want {
				t.Errorf("%q: %+v: %s, want %d", s, x.tier, told(out), caller+x.want)
			}
		}
	}
}
