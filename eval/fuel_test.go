package eval

import (
	"fmt"
	"testing"

	"evenhand/api"
)

// step is a charge, and what is in the row of prints, keeps and clocks once what it
// is for was done.
type step struct {
	cost                   int64
	prints, keeps, clocked int
}

// M1: with each fuel, all ends at the first charge that is above it: it is on the
// clock, and what it is for is not done.
func TestM1EachFuel(t *testing.T) {
	const s = "func f(a) { keep a; return a; } array a 2; a[1] = 7; x = f(a[1]) * 3; if x { print clock; } while y < 1 { input y; } print 9 / 3;"
	l := []step{
		{20, 0, 0, 0}, {1, 0, 0, 0}, {1, 0, 0, 0}, {3, 0, 0, 0}, // a made, and put into
		{1, 0, 0, 0}, {3, 0, 0, 0}, {10, 0, 0, 0}, {1, 0, 0, 0}, {5, 0, 1, 0}, {1, 0, 1, 0}, {2, 0, 1, 0}, {1, 0, 1, 0}, {3, 0, 1, 0}, {1, 0, 1, 0}, // x
		{1, 0, 1, 0}, {1, 0, 1, 0}, {2, 0, 1, 1}, {5, 1, 1, 1}, {1, 1, 1, 1}, // if
		{1, 1, 1, 1}, {1, 1, 1, 1}, {1, 1, 1, 1}, {1, 1, 1, 1}, {4, 1, 1, 1}, {1, 1, 1, 1}, {1, 1, 1, 1}, {1, 1, 1, 1}, {1, 1, 1, 1}, {1, 1, 1, 1}, // while
		{1, 1, 1, 1}, {1, 1, 1, 1}, {8, 1, 1, 1}, {5, 2, 1, 1}, {1, 2, 1, 1}, {2, 2, 1, 1},
	}
	p := program(t, s)
	for fuel := int64(-2); fuel < 120; fuel++ {
		want := api.Outcome{Err: api.OK}
		done := step{}
		for _, x := range l {
			want.Clock += x.cost
			if want.Clock > max(fuel, 0) {
				want.Err = api.ErrFuel
				break
			}
			done = x
		}
		want.Prints, want.Keeps, want.Clocks = []int64{57, 3}[:done.prints], []int64{7}[:done.keeps], []int64{57}[:done.clocked]
		a := enough()
		a.fuel = fuel
		if got := told(a.of(p)); got != told(want) {
			t.Errorf("%d: %s, want %s", fuel, got, told(want))
		}
	}
}

// M1: a fuel that is below 0 is none; one that is above 2^40 is no less than much.
func TestM1FuelsOfAnySize(t *testing.T) {
	for fuel, want := range map[int64]string{
		least: "{[] [] [] 1 0 error 8}", -1 << 40: "{[] [] [] 1 0 error 8}", -1: "{[] [] [] 1 0 error 8}", 0: "{[] [] [] 1 0 error 8}", 1: "{[] [] [] 6 0 error 8}", 5: "{[] [] [] 6 0 error 8}", 6: "{[1] [] [] 7 0 error 8}", 8: "{[1] [] [] 9 0 error 8}",
		9: "{[1] [] [] 9 0 error 0}", 10: "{[1] [] [] 9 0 error 0}", 1 << 32: "{[1] [] [] 9 0 error 0}", 1 << 40: "{[1] [] [] 9 0 error 0}", 1<<40 + 1: "{[1] [] [] 9 0 error 0}", most: "{[1] [] [] 9 0 error 0}",
	} {
		a := enough()
		a.fuel = fuel
		a.does(t, "print 1;", want)
	}
}

// M1: all ends, whatever is done again and again.
func TestM1AllEnds(t *testing.T) {
	for _, s := range []string{
		"while 1 { }", "while 1 { while 0 { } }", "while !0 { x = x + 1; }", "while clock { }", "func f() { while 1 { } } x = f();", "func f(n) { if n { x = f(n - 1); x = f(n - 1); } } x = f(60);",
		"while 1 { print x; keep x; }", "while 1 { input x; }", "if 1 { } else { } while 1 { if 1 { } else { x = 1; } }",
	} {
		for _, fuel := range []int64{0, 1, 1000, 5000, 200000} {
			a := enough()
			a.fuel = fuel
			if out := a.of(program(t, s)); out.Err != api.ErrFuel || out.Clock <= fuel || out.Clock > fuel+20 || out.Result != 0 {
				t.Errorf("%q: %d: %d, %v", s, fuel, out.Clock, out.Err)
			}
		}
	}
}

// M1: what ends all ahead of the fuel is told as that; a charge that is refused comes
// ahead of what it is for.
func TestM1FuelOrElse(t *testing.T) {
	for _, x := range []struct {
		s    string
		at   int64 // what all costs, up to the charge for what ends all
		want api.Errno
	}{
		{"x = 1 / 0;", 10, api.ErrTrap}, {"x = 1 % 0;", 10, api.ErrTrap}, {"array a 1; x = a[1];", 24, api.ErrTrap}, {"array a 1; a[1] = 2;", 25, api.ErrTrap}, {"array a 4000;", 20, api.ErrQuota},
		{"func f() { x = f(); } x = f();", 650, api.ErrDepth}, {"return 7;", 3, api.OK}, {"", 3, api.OK},
	} {
		for fuel := x.at - 3; fuel < x.at+3; fuel++ {
			a := enough()
			a.fuel = fuel
			want := x.want
			if fuel < x.at {
				want = api.ErrFuel
			}
			out := a.of(program(t, x.s))
			if out.Err != want || want != api.ErrFuel && out.Clock != x.at || (out.Result != 0) != (want == api.OK && x.s != "") {
				t.Errorf("%q: %d: %s, want %v", x.s, fuel, told(out), want)
			}
		}
	}
}

// M1: the oracle: its numbers in order, in place of the clock's, and 0 behind them;
// the meter's clock goes on as ever.
func TestM1Oracle(t *testing.T) {
	const s = "print clock; x = clock; if x { print clock; } else { keep clock; }"
	for _, oracle := range [][]int64{
		nil, {}, {70}, {0}, {70, 1}, {70, 0}, {0, 70}, {70, -5, 90}, {70, 0, 90}, {0, 0, 0}, {70, 1, 2, 3, 4}, {0, 0, 2, 3, 4}, {least, most, most}, {most, 0, least},
	} {
		for _, given := range []bool{false, true} {
			a := enough()
			a.oracle, a.given = oracle, given
			a.does(t, s, oracled(oracle, given))
		}
	}
}

// oracled is what TestM1Oracle's text does: it asks three times, and one of two ways
// is by a jump longer.
func oracled(oracle []int64, given bool) string {
	clocks := []int64{2, 9, 14}
	if given {
		clocks = append(append([]int64{}, oracle...), 0, 0, 0)[:3]
	}
	if clocks[1] != 0 {
		return fmt.Sprintf("{[%d %d] [] %v 23 0 error 0}", clocks[0], clocks[2], clocks)
	}
	return fmt.Sprintf("{[%d] [%d] %v 22 0 error 0}", clocks[0], clocks[2], clocks)
}

// M1: the oracle's numbers go by how often the clock was asked, in whichever function.
func TestM1OracleInFunctions(t *testing.T) {
	a := enough()
	a.oracle, a.given = []int64{10, 20, 30, 40}, true
	a.does(t, "func f() { return clock; } print clock; print f(); print f() + clock; print clock;", "{[10 20 70 0] [] [10 20 30 40 0] 58 0 error 0}")
	a.does(t, "while 1 { if !clock { return x; } x = x + 1; }", "{[] [] [10 20 30 40 0] 53 4 error 0}")
	a.does(t, "x = clock; x = clock; x = 1 / 0; x = clock;", "{[] [] [10 20] 16 0 error 7}")
	a.fuel = 7
	a.does(t, "x = clock; x = clock; x = clock; x = clock;", "{[] [] [10 20] 8 0 error 8}")
	// A number of the oracle is not charged, however great.
	a = enough()
	a.oracle, a.given = []int64{most, least}, true
	a.does(t, "print clock + 0; print clock;", "{[9223372036854775807 -9223372036854775808] [] [9223372036854775807 -9223372036854775808] 19 0 error 0}")
}
