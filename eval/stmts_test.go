package eval

import (
	"strings"
	"testing"

	"evenhand/api"
)

// M1: what each statement costs, with its parts.
func TestM1StmtCosts(t *testing.T) {
	for s, want := range map[string]int64{
		"x = 1;": 2, "input x;": 4, "input X;": 4, "print 1;": 6, "keep 1;": 6, "array a 1;": 20, "array a 1000;": 20, "array a 2; a[1] = 1;": 20 + 2 + 3,
		"if 1 { }": 3, "if 0 { }": 2, "if 5 { x = 1; }": 5, "if 0 { x = 1; }": 2, "if 0 { } else { x = 1; }": 4, "if 1 { } else { x = 1; }": 3, "if -1 { x = 1; } else { }": 6,
		"while 0 { x = 1; }": 2, "x = 2; while x { x = x - 1; }": 2 + 3*2 + 2*(4+1), "while x < 2 { x = x + 1; }": 3*4 + 2*(4+1), "x = 1; while x { x = 0; x = 0; }": 2 + 2 + 4 + 1 + 2,
		"if 1 { if 1 { if 0 { } } }": 2 + 2 + 2 + 2, "": 0,
	} {
		costs(t, s, want)
	}
}

// M1: Return: its part is charged, then Return; of what stands behind, nothing.
func TestM1ReturnOfMain(t *testing.T) {
	enough().does(t, "return 5;", "{[] [] [] 3 5 error 0}")
	enough().does(t, "return 0; print 1;", "{[] [] [] 3 0 error 0}")
	enough().does(t, "print 1; return -7 * 2; print 2;", "{[1] [] [] 14 -14 error 0}")
	enough().does(t, "if 1 { return 4; } print 1;", "{[] [] [] 5 4 error 0}")
	enough().does(t, "if 0 { } else { if 1 { return 4; } print 2; } print 1;", "{[] [] [] 7 4 error 0}")
	enough().does(t, "while 1 { x = x + 1; if x == 3 { return x; } }", "{[] [] [] 35 3 error 0}")
	enough().does(t, "while 1 { while 1 { return 6; } }", "{[] [] [] 7 6 error 0}")
	enough().does(t, "x = 9;", "{[] [] [] 5 0 error 0}")
	enough().does(t, "func f() { return 5; } x = f();", "{[] [] [] 17 0 error 0}")
	enough().does(t, "return 1 / 0;", "{[] [] [] 10 0 error 7}")
}

// M1: Put: that place of the array is the second part; a trap, if there is none, and
// nothing is put.
func TestM1Put(t *testing.T) {
	prints(t, "array a 3; a[2] = 5; a[0] = -1; print a[0]; print a[1]; print a[2];", -1, 0, 5)
	prints(t, "array a 2; array B 2; a[0] = 1; B[0] = 2; B[1] = 3; print a[0]; print a[1]; print B[0]; print B[1];", 1, 0, 2, 3)
	for _, n := range []int64{-1, 3, 4, 4096, 1 << 32, 1<<32 + 1, most, least, -1 << 32} {
		s := "array b 2; array a 3; array c 2; keep 5; x = " + written(n) + "; a[x] = 1; keep 6;"
		if out := enough().of(program(t, s)); told(out)[:8] != "{[] [5] " || out.Err != api.ErrTrap {
			t.Errorf("%q: %s", s, told(out))
		}
	}
	ends(t, "array a 3; a[3] = 7;", api.ErrTrap, 20+2+3)
	ends(t, "array a 3; a[-1] = 7;", api.ErrTrap, 20+3+3)
	ends(t, "if x { array a 3; } a[0] = 7;", api.ErrTrap, 2+2+3)
	ends(t, "array a 3; a[3] = 1 / 0;", api.ErrTrap, 20+1+2+8)
}

// M1: Array: a new one of 0s, each time; the one that was stays used, but is not
// there any more.
func TestM1Array(t *testing.T) {
	prints(t, "array a 2; a[1] = 5; array a 3; print a[1]; print a[2]; a[2] = 4; array a 1; print a[0];", 0, 0, 0)
	ends(t, "array a 3; array a 2; x = a[2];", api.ErrTrap, 40+1+3)
	prints(t, "while x < 3 { array a 2; print a[1]; a[1] = x + 1; print a[1]; x = x + 1; }", 0, 1, 0, 2, 0, 3)
	prints(t, each(names("a", 64), "array @ 2; @[1] = 3;")+" a5[1] = 77; print a0[1]; print a5[1]; print a6[1]; print a63[1]; print a63[0];", 3, 77, 3, 3, 0)
}

// M1: the quota: as many cells as that, and none more; those that are not there any
// more count.
func TestM1Quota(t *testing.T) {
	for _, x := range []struct {
		quota int64
		s     string
		want  string
	}{
		{0, "array a 1;", "{[] [] [] 20 0 error 9}"}, {-1, "array a 1;", "{[] [] [] 20 0 error 9}"}, {least, "array a 1;", "{[] [] [] 20 0 error 9}"}, {0, "print 1;", "{[1] [] [] 9 0 error 0}"},
		{1, "array a 1;", "{[] [] [] 23 0 error 0}"}, {5, "array a 3; array b 2;", "{[] [] [] 43 0 error 0}"}, {5, "array a 3; print 7; array b 3; print 8;", "{[7] [] [] 46 0 error 9}"},
		{5, "array a 3; array a 3;", "{[] [] [] 40 0 error 9}"}, {4096, "array a 4096;", "{[] [] [] 23 0 error 0}"}, {4095, "array a 4096;", "{[] [] [] 20 0 error 9}"},
		{6, "func f() { array a 3; } x = f() + f();", "{[] [] [] 71 0 error 0}"}, {5, "func f() { array a 3; } x = f() + f();", "{[] [] [] 63 0 error 9}"},
		{4, "array a 5; return 1;", "{[] [] [] 20 0 error 9}"},
	} {
		a := enough()
		a.quota = x.quota
		a.does(t, x.s, x.want)
	}
}

// M1: the quota is 2^20, if more is asked for.
func TestM1QuotaIsBounded(t *testing.T) {
	const all = "while x < 256 { array a 4096; x = x + 1; } keep 1; array b 1; keep 2;"
	for _, x := range []struct {
		quota int64
		keeps string
	}{{1<<20 - 1, "[]"}, {1 << 20, "[1]"}, {1<<20 + 1, "[1]"}, {1 << 21, "[1]"}, {most, "[1]"}} {
		a := enough()
		a.quota = x.quota
		out := a.of(program(t, all))
		if got := strings.Fields(told(out))[1]; out.Err != api.ErrQuota || got != x.keeps {
			t.Errorf("%d: %s", x.quota, told(out))
		}
	}
}

// M1: Input: the next one of Public, or, if the name is secret, of Secret; 0 behind.
func TestM1Input(t *testing.T) {
	const s = "input x; input Y; input z; input x; input Z; input x; input Q; keep x; keep Y; keep z; keep Z; keep Q;"
	for _, x := range []struct {
		public, secret []int64
		want           string
	}{
		{nil, nil, "[0 0 0 0 0]"}, {[]int64{1}, []int64{2}, "[0 2 0 0 0]"}, {[]int64{1, 2, 3, 4}, []int64{5, 6, 7}, "[4 5 2 6 7]"}, {[]int64{}, []int64{least, most, -1, 9}, "[0 -9223372036854775808 0 9223372036854775807 -1]"},
		{[]int64{1, 2, 3, -4, 5, 6}, nil, "[-4 0 2 0 0]"},
	} {
		a := enough()
		a.public, a.secret = x.public, x.secret
		if got := told(a.of(program(t, s))); !strings.HasPrefix(got, "{[] "+x.want+" []") {
			t.Errorf("%v %v: %s", x.public, x.secret, got)
		}
	}
	// It is the variable's name that says which, where it stands says nothing.
	enough().does(t, "func F(A, b) { input A; input b; keep A; keep b; } func g() { input Q; input q; keep Q; keep q; } x = F(1, 2); x = g();", "{[] [8 3 13 5] [] 73 0 error 0}")
	// What is there no more is 0, also where the variable was something.
	enough().does(t, "x = 7; X = 7; input x; input x; input x; input X; input X; input X; print x; print X;", "{[0 0] [] [] 43 0 error 0}")
	enough().does(t, "while 1 { input x; print x; if !x { return 1; } }", "{[3 5 0] [] [] 50 1 error 0}")
	// The first and the last letter of each kind: a and z are public, A and Z secret.
	enough().does(t, "input a; input z; keep a; keep z; input A; input Z; keep A; keep Z;", "{[] [3 5 8 13] [] 43 0 error 0}")
}

// M1: Print, Keep: the last one of its row.
func TestM1PrintKeep(t *testing.T) {
	enough().does(t, "print 1; keep 2; print 3; keep 4; keep 4; print -3;", "{[1 3 -3] [2 4 4] [] 40 0 error 0}")
	enough().does(t, "func f(n) { print n; keep -n; return n + 1; } keep f(f(1));", "{[1 2] [-1 -2 3] [] 65 0 error 0}")
}

// M1: If: Body, if it is not 0, else Else.
func TestM1If(t *testing.T) {
	for _, n := range []int64{1, -1, 2, least, most, 1 << 32} {
		prints(t, "x = "+written(n)+"; if x { print 1; print 2; } else { print 3; } print 4;", 1, 2, 4)
		prints(t, "x = "+written(n)+"; if x { } else { print 3; } print 4;", 4)
	}
	prints(t, "if 0 { print 1; } else { print 2; print 3; } print 4; if 0 { print 5; } print 6;", 2, 3, 4, 6)
	// It is asked once, and what it asks may change then.
	prints(t, "x = 1; if x { x = 0; print 1; } else { print 2; } y = 0; if y { print 3; } else { y = 1; print 4; }", 1, 4)
	prints(t, "if 1 { if 0 { print 1; } else { print 2; } print 3; } else { if 1 { print 4; } print 5; }", 2, 3)
}

// M1: While: again and again, as long as what it asks is not 0.
func TestM1While(t *testing.T) {
	prints(t, "while x < 3 { print x; x = x + 1; } print x;", 0, 1, 2, 3)
	prints(t, "while 0 { print 1; } print 2;", 2)
	prints(t, "x = -2; while x { print x; x = x + 1; }", -2, -1)
	prints(t, "while x < 2 { y = 0; while y < 2 { print x * 10 + y; y = y + 1; } x = x + 1; }", 0, 1, 10, 11)
	prints(t, "func f() { while x < 9 { x = x + 1; if x == 4 { return x; } } } print f(); print x;", 4, 0)
	enough().does(t, "x = 3; while x - clock * 0 { x = x - 1; }", "{[] [] [5 19 33 47] 56 0 error 0}")
	ends(t, "x = 2; while 6 / x { x = x - 1; }", api.ErrTrap, 2+2*(1+1+8+1+4+1)+1+1+8)
}

// M1: statements are done in order, and what ends all ends it at once.
func TestM1EndsAtOnce(t *testing.T) {
	enough().does(t, "print 5; keep 4; x = clock; x = 1 / 0; print 6; keep 6; return 3;", "{[5] [4] [14] 25 0 error 7}")
	enough().does(t, "func f(n) { keep n; if n { x = f(n - 1); } else { x = 1 % 0; } keep 99; } while 1 { print 1; x = f(2); print 2; }", "{[1] [2 1 0] [] 79 0 error 7}")
	enough().does(t, "array a 1; if 1 { while 1 { x = a[1]; } } else { print 1; } print 2;", "{[] [] [] 28 0 error 7}")
}
