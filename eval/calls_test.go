package eval

import (
	"fmt"
	"strings"
	"testing"

	"evenhand/api"
)

// M1: a function's parameters are its arguments, in order; what it returns is the
// number of the call.
func TestM1Arguments(t *testing.T) {
	prints(t, "func f(a, b) { return a - b; } print f(10, 3); print f(3, 10); x = f(f(9, 1), f(1, 3)); print x;", 7, -7, 10)
	prints(t, "func f(b, a) { return a - b; } a = 1; b = 2; print f(a, b); print f(b, a);", 1, -1)
	prints(t, "func f(a, b, c, d, e, f, g, h) { h = h + 1; return ((((((a * 10 + b) * 10 + c) * 10 + d) * 10 + e) * 10 + f) * 10 + g) * 10 + h; } print f(1, 2, 3, 4, 5, 6, 7, 8);", 12345679)
	prints(t, "func none() { return 4; } print none() + none();", 8)
	prints(t, "func f(a) { b = a; c = b; print b; print c; return c; } print f(6);", 6, 6, 6)
	prints(t, "func z(a) { return a + 1; } func y(a) { return z(a) * 2; } func x(a) { return y(a) + z(a); } print x(3);", 12)
	prints(t, "func f(X, y, Z) { print y; return y; } v = f(1, 2, 3);", 2)
}

// M1: what stands behind the last statement of a function: it returns 0, for 3.
func TestM1FallsOff(t *testing.T) {
	costs(t, "func f() { } x = f();", 10+3+1)
	costs(t, "func f(a) { return a; } x = f(1);", 1+10+3+1)
	costs(t, "func f(a) { if a { return a; } } x = f(1); x = f(0);", 1+10+2+3+1+1+10+2+3+1)
	prints(t, "func f(a) { a = 5; } print f(1); x = 7; x = f(2); print x;", 0, 0)
	prints(t, "func f(a) { if a { return a; } else { b = 1; } while b { b = 0; } } print f(3); print f(0);", 3, 0)
}

// M1: a Return ends its function alone, wherever in it it stands.
func TestM1ReturnOfFunctions(t *testing.T) {
	prints(t, "func f(n) { while 1 { while 1 { if n { return n; } else { return 77; } print 1; } print 2; } print 3; } print f(5); print f(0);", 5, 77)
	prints(t, "func g(n) { return n; print 9; } func f(n) { x = g(n); print x; return x + 1; print 9; } print f(5); print 6;", 5, 6, 6)
	enough().does(t, "func f() { return 5; } while 1 { return f() + 1; }", "{[] [] [] 19 6 error 0}")
}

// M1: variables and arrays of one that is done are its own.
func TestM1OwnNames(t *testing.T) {
	prints(t, "func f(a, b) { a = a - b; return a; } a = 10; print f(a, 3); print a;", 7, 10)
	prints(t, "func f() { x = x + 1; return x; } x = 10; print f(); print f(); print x;", 1, 1, 10)
	prints(t, "func f(n) { x = x + n; if n { y = f(n - 1); } return x; } print f(3); print f(2);", 3, 2)
	prints(t, "func f(n) { m = n; if n { x = f(n - 1); } print m; print n; } x = f(2);", 0, 0, 1, 1, 2, 2)
	prints(t, "func f() { array a 1; a[0] = a[0] + 1; return a[0]; } array a 1; a[0] = 5; print f() + f(); print a[0];", 2, 5)
	prints(t, "func f(n) { array a 4; a[n] = n; if n { x = f(n - 1); } print a[3] * 1000 + a[2] * 100 + a[1] * 10 + a[0]; } x = f(3);", 0, 10, 200, 3000)
	// An array that was made by one that is done is not made for another one.
	ends(t, "func f(n) { if n { array a 1; x = f(0); } else { x = a[0]; } } x = f(1);", api.ErrTrap, 1+10+2+20+1+10+2+1+3)
	ends(t, "func f(n) { if n { array a 1; } x = a[0]; return 7; } x = f(1); x = f(0);", api.ErrTrap, 1+10+2+20+1+1+3+1+1+2+1+1+10+2+1+3)
	ends(t, "func f() { if 0 { array a 1; } a[0] = 1; } array a 1; x = f();", api.ErrTrap, 20+10+2+2+3)
	// One name may be a variable here, and an array, a parameter, or a function there.
	prints(t, "func f(g) { array f 2; f[1] = g; return f[1]; } func g(f) { return f(f) + f; } array g 1; g[0] = 4; f = 3; print g(f) + g[0];", 10)
}

// M1: all that read inputs, print and keep do so of the same rows.
func TestM1CommonRows(t *testing.T) {
	enough().does(t, "func f() { input x; print x; keep x; return x; } input y; print y; z = f(); z = f(); print z;", "{[3 5 0 0] [5 0] [] 79 0 error 0}")
}

// down calls itself, till it has as many within one another as it was handed, and
// one more.
const down = "func f(n) { if n == 0 { return 0; } return f(n - 1); }"

// M1: 64 functions may be done within one another, main not counted, and 65 may not;
// the call is charged all the same.
func TestM1Depth(t *testing.T) {
	prints(t, down+" print f(63); print f(63);", 0, 0)
	enough().does(t, down+" print f(63);", "{[0] [] [] 1223 0 error 0}")
	// Each call: its argument and itself, 1 + 10 or 3 + 10, and what it asks, 4.
	ends(t, down+" print f(64);", api.ErrDepth, 1+10+4+63*(3+10+4)+3+10)
	ends(t, down+" print f(1000);", api.ErrDepth, 1+10+4+63*(3+10+4)+3+10)
	ends(t, "func f() { return f(); } x = f();", api.ErrDepth, 65*10)
	ends(t, "func f() { return g(); } func g() { x = h(); } func h() { if 1 { print f(); } }  x = f();", api.ErrDepth, 65*10+21*2)
	ends(t, "func f() { array a 1; x = f(); } x = f();", api.ErrDepth, 65*10+64*20)
	// What is ahead of the call is done, also where it is one too many.
	out := enough().of(program(t, "func f(n) { print n; x = f(n + clock * 0 + 1); } x = f(1);"))
	if out.Err != api.ErrDepth || len(out.Prints) != 64 || out.Prints[63] != 64 || len(out.Clocks) != 64 {
		t.Error(told(out))
	}
}

// M1: those that are over are not being done any more.
func TestM1DepthOfOthers(t *testing.T) {
	prints(t, "func f() { } while x < 200 { x = x + 1 + f(); } print x;", 200)
	prints(t, down+" print f(60) + f(61) + f(f(62) + 63);", 0)
	prints(t, "func g() { return 1; }"+down+" func h(n) { if n { x = g() + g(); return h(n - 1) + x; } return f(0) + g(); } print h(62);", 125)
	ends(t, "func g() { return 1; } func h(n) { if n == 0 { return g(); } return h(n - 1); } x = h(64);", api.ErrDepth, 1+10+4+63*(3+10+4)+3+10)
	ends(t, "func g() { return 1; } func h(n) { if n == 0 { return g(); } return h(n - 1); } x = h(63);", api.ErrDepth, 1+10+4+63*(3+10+4)+10)
	prints(t, "func g() { return 1; } func h(n) { if n == 0 { return g(); } return h(n - 1); } print h(62);", 1)
	// A function that is left by a Return out of its middle is over, too.
	prints(t, "func f(n) { while 1 { if 1 { return n; } } } while x < 100 { x = f(x) + 1; } print x;", 100)
}

// M1: of all functions the one of the Name is done.
func TestM1ManyFunctions(t *testing.T) {
	var s strings.Builder
	sum := int64(0)
	for i := range 32 {
		fmt.Fprintf(&s, "func f%d(a) { return a * 1000 + %d; } ", i, i)
		sum = sum*2 + int64(7000+i)
	}
	for i := range 32 {
		fmt.Fprintf(&s, "x = x * 2 + f%d(7); ", i)
	}
	prints(t, s.String()+"print x;", sum)
}

// M1: the deepest statements within the most functions.
func TestM1DeepAndDeep(t *testing.T) {
	e := "f(n - 1)"
	e = strings.Repeat("-", 50) + e
	body := strings.Repeat("if n { ", 8) + "return " + e + ";" + strings.Repeat(" }", 8) + " return 7;"
	prints(t, "func f(n) { "+body+" } print f(63);", 7)
}
