package interp

import (
	"fmt"
	"testing"

	"evenhand/api"
	"evenhand/code"
)

// N2: Array: N places of 0; Set takes what is put, then the place; Get a place.
func TestN2Arrays(t *testing.T) {
	prints(t, "array 0 3, push 0, get 0, print, push 2, get 0, print, push 1, push 7, set 0, push 1, get 0, print, push 0, get 0, print"+over, 0, 0, 7, 0)
	prints(t, "array 0 9, push 5, push 8, set 0, push 8, push 5, set 0, push 5, get 0, print, push 8, get 0, print"+over, 8, 5)
	// What is left below stays.
	prints(t, "array 0 3, push 66, push 1, push 7, set 0, push 1, get 0, print, print"+over, 7, 66)
	// Two of a function are two, whichever is made first.
	prints(t, "array 0 2, array 1 2, push 1, push 5, set 0, push 1, push 6, set 1, push 1, get 0, print, push 1, get 1, print, push 0, get 0, print, push 0, get 1, print"+over, 5, 6, 0, 0)
	prints(t, "array 1 2, array 0 2, push 0, push 5, set 0, push 1, push 6, set 1, push 0, get 0, print, push 1, get 1, print, push 1, get 0, print, push 0, get 1, print"+over, 5, 6, 0, 0)
}

// wrongPlaces are none of an array of three, among them such as would be, were they
// cut to fewer bits.
func wrongPlaces() []int64 {
	return []int64{least, -1 << 32, -2, -1, 3, 4, 256, 4096, 1 << 31, 1 << 32, 1<<32 + 1, 1 << 62, most}
}

// N2: Get, Set: a trap, if there is no such place.
func TestN2NoPlace(t *testing.T) {
	for _, i := range wrongPlaces() {
		for _, other := range []string{"", "array 1 9, "} {
			head, cost := other+"array 0 3, "+other, int64(20)
			if other != "" {
				cost += 40
			}
			ends(t, alone(fmt.Sprint(head, "push ", i, ", get 0, print", over)), api.ErrTrap, cost+4)
			ends(t, alone(fmt.Sprint(head, "push ", i, ", push 1, set 0", over)), api.ErrTrap, cost+5)
		}
	}
	for i := range 3 {
		prints(t, fmt.Sprint("array 0 3, push ", i, ", push 5, set 0, push ", i, ", get 0, print", over), 5)
	}
}

// N2: arrays have no places at first: not those of another one either.
func TestN2NotMade(t *testing.T) {
	for _, made := range []string{"", "array 1 4, "} {
		cost, _ := sum(written(made))
		for _, i := range append(wrongPlaces(), 0, 1, 2) {
			ends(t, alone(fmt.Sprint(made, "push ", i, ", get 0, print", over)), api.ErrTrap, cost+4)
			ends(t, alone(fmt.Sprint(made, "push ", i, ", push 1, set 0", over)), api.ErrTrap, cost+5)
		}
	}
	// It is made behind the asking alone.
	ends(t, alone("push 0, get 1, print, array 1 4"+over), api.ErrTrap, 4)
	// And of all 64 that a function may have.
	for i := range 64 {
		c := code.Code{Fns: []code.Fn{{Arrays: 64, L: written(fmt.Sprint("array ", (i+1)%64, " 1, push 0, get ", i, ", return"))}}}
		ends(t, c, api.ErrTrap, 24)
		c.Fns[0].L[0].A = i
		enough().does(t, c, "{[] [] [] 26 0 error 0}")
	}
}

// N2: an array that is made again has new places of 0, as many as it is said then; the
// others stay.
func TestN2MadeAgain(t *testing.T) {
	prints(t, "array 0 2, push 1, push 7, set 0, array 0 2, push 1, get 0, print, push 1, push 8, set 0, push 1, get 0, print"+over, 0, 8)
	prints(t, "array 0 2, array 1 2, push 1, push 7, set 1, array 0 5, push 4, push 9, set 0, push 1, get 1, print, push 4, get 0, print, push 0, get 1, print"+over, 7, 9, 0)
	ends(t, alone("array 0 5, push 4, get 0, print, array 0 2, push 2, get 0"+over+", push 0, return"), api.ErrTrap, 20+1+3+5+20+1+3)
	prints(t, "array 0 2, array 0 5, push 4, get 0, print"+over, 0)
}

// N2: at most as many cells as the quota has, of all that were made; all ends with the
// error of 11, and what was charged for it.
func TestN2Quota(t *testing.T) {
	for _, x := range []struct {
		s     string
		cells int64 // all that it makes
		last  int64 // what all costs, up to the array that is one too many
	}{
		{"array 0 1", 1, 20}, {"array 0 5", 5, 20}, {"array 0 4096", 4096, 20}, {"array 0 3, array 1 4", 7, 40}, {"array 0 3, array 0 4", 7, 40}, {"array 0 4096, push 1, print, array 1 4096, array 0 4096", 12288, 66},
	} {
		for _, quota := range []int64{least, -5, 0, 1, x.cells - 1, x.cells, x.cells + 1, 1 << 20, 1<<20 + 1, most} {
			a := enough()
			a.quota = quota
			out := a.of(alone(x.s + over))
			if quota >= x.cells && (out.Err != api.OK || out.Clock != x.last+3) {
				t.Errorf("%q: %d: %s", x.s, quota, told(out))
			}
			if quota < x.cells && (out.Err != api.ErrQuota || quota == x.cells-1 && out.Clock != x.last) {
				t.Errorf("%q: %d: %s", x.s, quota, told(out))
			}
		}
	}
	// A quota above 2^20 is that: 256 of 4096 there are, and no more.
	for _, quota := range []int64{1 << 20, 1<<20 + 1, 1 << 40, most} {
		a := enough()
		a.quota = quota
		full := a.of(alone("push 256, store 0, array 0 4096, load 0, push 1, sub, store 0, load 0, zero 10, jump 2, load 0, print, array 1 1" + over))
		if full.Err != api.ErrQuota || len(full.Prints) != 1 {
			t.Errorf("%d: %s", quota, told(full))
		}
	}
}

// N2: cells of a function that returned are used up all the same.
func TestN2QuotaOfCalls(t *testing.T) {
	c := all("call 1, print, call 1, print, call 1, print"+over, "array 0 3, push 2, get 0, push 2, push 7, set 0, return", 0)
	a := enough()
	for quota, want := range map[int64]string{9: "{[0 0 0] [] [] 141 0 error 0}", 8: "{[0 0] [] [] 122 0 error 9}", 5: "{[0] [] [] 76 0 error 9}", 2: "{[] [] [] 30 0 error 9}"} {
		a.quota = quota
		a.does(t, c, want)
	}
}
