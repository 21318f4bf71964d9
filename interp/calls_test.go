package interp

import (
	"fmt"
	"strings"
	"testing"

	"evenhand/api"
	"evenhand/code"
)

// N2: a Call takes as many as the function has Params, the one that was left last being
// the last one; they are its first variables. What is left below stays.
func TestN2Arguments(t *testing.T) {
	printed(t, all("push 10, push 3, call 1, print, push 3, push 10, call 1, print"+over, "load 0, load 1, sub, return", 2), 7, -7)
	for params := range 9 {
		main, body, want := "push 5, push 6, ", "", []int64{}
		for i := range params {
			main += fmt.Sprint("push ", 10+i, ", ")
			body += fmt.Sprint("load ", i, ", print, ")
			want = append(want, int64(10+i))
		}
		c := all(main+"call 1, print, print, print"+over, body+"load "+text(int64(params))+", return", params)
		printed(t, c, append(want, 0, 6, 5)...)
	}
}

// N2: a Call's number is what the function returns, alone: what else it has left is gone.
func TestN2Returned(t *testing.T) {
	printed(t, all("push 50, call 1, print, print"+over, "push 1, push 2, push 3, return", 0), 3, 50)
	printed(t, all("call 1, call 2, call 1, add, add, print"+over, "push 4, return", 0, "push 100, push 30, return, push 9, print", 0), 38)
	for _, n := range numbers() {
		printed(t, all("call 1, print"+over, "push "+text(n)+", return", 0), n)
	}
	// Return of a function is not that of main: all goes on behind the Call.
	enough().does(t, all("call 1, call 1, sub, push 8, return", "push 7, return", 0), "{[] [] [] 30 8 error 0}")
}

// N2: variables and arrays are the call's own: 0, and without places, at first.
func TestN2OwnNames(t *testing.T) {
	body := "load 0, print, load 1, print, push 9, store 0, push 9, store 1, load 2, return"
	printed(t, all("push 5, store 0, push 6, store 1, push 7, store 2, push 1, call 1, print, load 0, print, load 1, print, load 2, print, push 2, call 1, print"+over, body, 1), 1, 0, 0, 5, 6, 7, 2, 0, 0)
	// It calls itself: what was set ahead of that stays so behind it.
	printed(t, all("push 3, call 1, print"+over, "load 0, store 1, load 0, zero 9, load 0, push 1, sub, call 1, print, load 1, print, push 4, return", 1), 0, 4, 1, 4, 2, 4, 3, 4)
	made := "array 0 3, push 0, push 5, set 0, "
	ends(t, all(made+"call 1, print"+over, "push 0, get 0, return", 0), api.ErrTrap, 20+1+1+3+10+1+3)
	ends(t, all("call 1, push 0, get 0, print"+over, made+"push 1, return", 0), api.ErrTrap, 10+20+1+1+3+1+2+1+3)
	ends(t, all("push 1, call 1, print, push 0, call 1, print"+over, "load 0, zero 3, array 0 3, push 0, get 0, return", 1), api.ErrTrap, 1+10+1+1+20+1+3+2+5+1+10+1+1+1+3)
	printed(t, all(made+"call 1, print, push 0, get 0, print"+over, "array 0 3, push 0, get 0, print, push 0, push 8, set 0, push 0, get 0, return", 0), 0, 8, 5)
}

// N2: all calls read the same inputs, tell to the same lists, by the same clock.
func TestN2CommonRows(t *testing.T) {
	body := "input 0 0, input 1 1, load 0, print, load 1, keep, clock, return"
	enough().does(t, all("call 1, print, input 0 0, load 0, print, call 1, print"+over, body, 0), "{[3 32 5 0 81] [8 13] [32 81] 91 0 error 0}")
}

// down is a function, the first one, that calls itself as often as it is told, and 7.
const down = "load 0, zero 7, load 0, push 1, sub, call 1, return, push 7, return"

// N2: 64 functions may run within one another, main not counted, and 65 may not; the
// Call is charged all the same.
func TestN2Depth(t *testing.T) {
	for n, want := range map[int]string{0: "{[7] [] [] 24 0 error 0}", 1: "{[7] [] [] 41 0 error 0}", 62: "{[7] [] [] 1078 0 error 0}", 63: "{[7] [] [] 1095 0 error 0}", 64: "{[] [] [] 971 0 error 3}", 65: "{[] [] [] 971 0 error 3}", 1000: "{[] [] [] 971 0 error 3}"} {
		enough().does(t, all(fmt.Sprint("push ", n, ", call 1, print", over), down, 1), want)
	}
	ends(t, all("call 1, return", "call 1, return", 0), api.ErrDepth, 650)
	ends(t, all("call 1, return", "call 2, return", 0, "call 3, return", 0, "call 1, return", 0), api.ErrDepth, 650)
	// What is ahead of the Call is done, also where it is one too many.
	out := enough().of(all("push 0, call 1, return", "load 0, print, clock, push 0, keep, load 0, push 1, add, call 1, return", 1))
	if out.Err != api.ErrDepth || len(out.Prints) != 64 || out.Prints[63] != 63 || len(out.Clocks) != 64 || len(out.Keeps) != 64 {
		t.Error(told(out))
	}
}

// N2: those that returned do not run any more.
func TestN2DepthOfOthers(t *testing.T) {
	// 200 calls one behind the other; then two of 64 within one another.
	printed(t, all("push 200, store 0, load 0, zero 12, push 0, call 1, store 1, load 0, push 1, sub, store 0, jump 2, load 0, print, push 63, call 1, push 63, call 1, add, print"+over, down, 1), 0, 14)
	// Both calls of a call, at the 63rd level.
	half := "load 0, zero 7, load 0, push 1, sub, call 1, return, call 2, call 2, add, return"
	printed(t, all("push 62, call 1, print"+over, half, 1, "push 4, return", 0), 8)
	ends(t, all("push 63, call 1, print"+over, half, 1, "push 4, return", 0), api.ErrDepth, 1+10+63*15+2+10)
}

// N2: of all functions the one at A is called, with its own numbers of variables and arrays.
func TestN2ManyFunctions(t *testing.T) {
	c := all("")
	var main strings.Builder
	var want []int64
	for i := 1; i <= 32; i++ {
		s := fmt.Sprint("array ", i-1, " ", i, ", push ", i-1, ", get ", i-1, ", load ", 2*i-1, ", add, push ", i*i, ", add, return")
		c.Fns = append(c.Fns, code.Fn{Vars: 2 * i, Arrays: i, L: written(s)})
		fmt.Fprintf(&main, "call %d, print, ", i)
		want = append(want, int64(i*i))
	}
	c.Fns[0].L = written(main.String() + over)
	printed(t, c, want...)
	for i := 1; i <= 32; i++ {
		c.Fns[0].L = written(fmt.Sprint("call ", i, ", return"))
		if out := enough().of(c); out.Result != int64(i*i) || out.Err != api.OK {
			t.Errorf("%d: %s", i, told(out))
		}
	}
}

// N2, R2: stacks as deep as code is long, and long ways.
func TestN2Long(t *testing.T) {
	const size = 20000
	enough().does(t, alone(times(size, "push 1")+times(size-1, "add")+"return"), fmt.Sprintf("{[] [] [] %d %d error 0}", 2*size-1+2, size))
	enough().does(t, all(times(9, "call 1")+times(8, "add")+"return", times(2000, "push 1")+"return", 0), fmt.Sprintf("{[] [] [] %d 9 error 0}", 9*2012+10))
	a := enough()
	a.fuel = 3000000
	a.does(t, alone("push 300000, store 0, load 0, zero 9, load 0, push 1, sub, store 0, jump 2"+over), "{[] [] [] 2100007 0 error 0}")
}
