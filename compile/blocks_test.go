package compile

import (
	"fmt"
	"slices"
	"strings"
	"testing"

	"evenhand/api"
	"evenhand/code"
)

// I1: an If, and where its Zero and its Jump go.
func TestI1If(t *testing.T) {
	mainOf(t, "if x { print 1; } else { print 2; keep 3; }",
		ins{code.Load, 0, 0}, ins{code.Zero, 5, 0},
		ins{code.Push, 0, 1}, ins{code.Print, 0, 0}, ins{code.Jump, 9, 0},
		ins{code.Push, 0, 2}, ins{code.Print, 0, 0}, ins{code.Push, 0, 3}, ins{code.Keep, 0, 0})
	// Without Else: both go to behind the Jump.
	mainOf(t, "if x { print 1; } print 2;",
		ins{code.Load, 0, 0}, ins{code.Zero, 5, 0}, ins{code.Push, 0, 1}, ins{code.Print, 0, 0}, ins{code.Jump, 5, 0},
		ins{code.Push, 0, 2}, ins{code.Print, 0, 0})
	// Without Body.
	mainOf(t, "if x { } else { print 1; } print 2;",
		ins{code.Load, 0, 0}, ins{code.Zero, 3, 0}, ins{code.Jump, 5, 0}, ins{code.Push, 0, 1}, ins{code.Print, 0, 0},
		ins{code.Push, 0, 2}, ins{code.Print, 0, 0})
	// Without both, at the beginning, behind others, and several.
	mainOf(t, "if x { }", ins{code.Load, 0, 0}, ins{code.Zero, 3, 0}, ins{code.Jump, 3, 0})
	mainOf(t, "if 1 { } else { }", ins{code.Push, 0, 1}, ins{code.Zero, 3, 0}, ins{code.Jump, 3, 0})
	mainOf(t, "print 9; if x { } if 1 { }", ins{code.Push, 0, 9}, ins{code.Print, 0, 0},
		ins{code.Load, 0, 0}, ins{code.Zero, 5, 0}, ins{code.Jump, 5, 0}, ins{code.Push, 0, 1}, ins{code.Zero, 8, 0}, ins{code.Jump, 8, 0})
}

// I1: a While, and where its Zero and its Jump go.
func TestI1While(t *testing.T) {
	mainOf(t, "while x { print 1; } print 2;",
		ins{code.Load, 0, 0}, ins{code.Zero, 5, 0}, ins{code.Push, 0, 1}, ins{code.Print, 0, 0}, ins{code.Jump, 0, 0},
		ins{code.Push, 0, 2}, ins{code.Print, 0, 0})
	mainOf(t, "print 9; while x { print 1; }",
		ins{code.Push, 0, 9}, ins{code.Print, 0, 0},
		ins{code.Load, 0, 0}, ins{code.Zero, 7, 0}, ins{code.Push, 0, 1}, ins{code.Print, 0, 0}, ins{code.Jump, 2, 0})
	// Without Body.
	mainOf(t, "while x { }", ins{code.Load, 0, 0}, ins{code.Zero, 3, 0}, ins{code.Jump, 0, 0})
	mainOf(t, "print 9; while x { } while 1 { }", ins{code.Push, 0, 9}, ins{code.Print, 0, 0},
		ins{code.Load, 0, 0}, ins{code.Zero, 5, 0}, ins{code.Jump, 2, 0}, ins{code.Push, 0, 1}, ins{code.Zero, 8, 0}, ins{code.Jump, 5, 0})
}

// I1: what is asked may be more than one instruction: a While's Jump goes to the
// first of them.
func TestI1LongConditions(t *testing.T) {
	mainOf(t, "y = 1; while x < 10 + y { x = x + 1; }",
		ins{code.Push, 0, 1}, ins{code.Store, 0, 0},
		ins{code.Load, 1, 0}, ins{code.Push, 0, 10}, ins{code.Load, 0, 0}, ins{code.Add, 0, 0}, ins{code.Less, 0, 0}, ins{code.Zero, 13, 0},
		ins{code.Load, 1, 0}, ins{code.Push, 0, 1}, ins{code.Add, 0, 0}, ins{code.Store, 1, 0}, ins{code.Jump, 2, 0})
	mainOf(t, "if !(x == 1) { print 2; } else { print 3; }",
		ins{code.Load, 0, 0}, ins{code.Push, 0, 1}, ins{code.Same, 0, 0}, ins{code.Not, 0, 0}, ins{code.Zero, 8, 0},
		ins{code.Push, 0, 2}, ins{code.Print, 0, 0}, ins{code.Jump, 10, 0}, ins{code.Push, 0, 3}, ins{code.Print, 0, 0})
	mainOf(t, "array a 3; while a[x - 1] { } print 1;",
		ins{code.Array, 0, 3}, ins{code.Load, 0, 0}, ins{code.Push, 0, 1}, ins{code.Sub, 0, 0}, ins{code.Get, 0, 0}, ins{code.Zero, 7, 0}, ins{code.Jump, 1, 0},
		ins{code.Push, 0, 1}, ins{code.Print, 0, 0})
}

// I1: an If in a While in an Else.
func TestI1BlocksInBlocks(t *testing.T) {
	mainOf(t, "if x { print 1; } else { while y + 1 { if z { print 2; } else { keep 3; } y = 4; } print 5; } keep 6;",
		ins{code.Load, 0, 0}, ins{code.Zero, 5, 0}, ins{code.Push, 0, 1}, ins{code.Print, 0, 0}, ins{code.Jump, 21, 0},
		ins{code.Load, 1, 0}, ins{code.Push, 0, 1}, ins{code.Add, 0, 0}, ins{code.Zero, 19, 0},
		ins{code.Load, 2, 0}, ins{code.Zero, 14, 0}, ins{code.Push, 0, 2}, ins{code.Print, 0, 0}, ins{code.Jump, 16, 0},
		ins{code.Push, 0, 3}, ins{code.Keep, 0, 0},
		ins{code.Push, 0, 4}, ins{code.Store, 1, 0}, ins{code.Jump, 5, 0},
		ins{code.Push, 0, 5}, ins{code.Print, 0, 0},
		ins{code.Push, 0, 6}, ins{code.Keep, 0, 0})
	mainOf(t, "while 1 { while 2 { while 3 { } } if 4 { while 5 { } } }",
		ins{code.Push, 0, 1}, ins{code.Zero, 15, 0},
		ins{code.Push, 0, 2}, ins{code.Zero, 8, 0}, ins{code.Push, 0, 3}, ins{code.Zero, 7, 0}, ins{code.Jump, 4, 0}, ins{code.Jump, 2, 0},
		ins{code.Push, 0, 4}, ins{code.Zero, 14, 0}, ins{code.Push, 0, 5}, ins{code.Zero, 13, 0}, ins{code.Jump, 10, 0}, ins{code.Jump, 14, 0},
		ins{code.Jump, 0, 0})
}

// I1: programs as deep as may be: 64.
func TestI1Deepest(t *testing.T) {
	const blocks = 62 // with the Print inside, and what it tells: 64

	var whiles, ifs, elses []ins
	end := 3*blocks + 2
	for i := range blocks {
		whiles = append(whiles, ins{code.Load, 0, 0}, ins{code.Zero, end - i, 0})
		ifs = append(ifs, ins{code.Load, 0, 0}, ins{code.Zero, end - i, 0})
		elses = append(elses, ins{code.Load, 0, 0}, ins{code.Zero, 3*i + 3, 0}, ins{code.Jump, end, 0})
	}
	inner := []ins{{code.Push, 0, 7}, {code.Print, 0, 0}}
	whiles, ifs, elses = append(whiles, inner...), append(ifs, inner...), append(elses, inner...)
	for i := range blocks {
		whiles = append(whiles, ins{code.Jump, 2 * (blocks - 1 - i), 0})
		ifs = append(ifs, ins{code.Jump, 2*blocks + 2 + i + 1, 0})
	}
	closing := strings.Repeat("} ", blocks)
	mainOf(t, strings.Repeat("while w { ", blocks)+"print 7; "+closing, whiles...)
	mainOf(t, strings.Repeat("if w { ", blocks)+"print 7; "+closing, ifs...)
	mainOf(t, strings.Repeat("if w { } else { ", blocks)+"print 7; "+closing, elses...)

	signs := append([]ins{{code.Load, 0, 0}}, slices.Repeat([]ins{{code.Neg, 0, 0}}, 62)...)
	mainOf(t, "print "+strings.Repeat("-", 62)+"x;", append(signs, ins{code.Print, 0, 0})...)
	gets := append([]ins{{code.Array, 0, 1}, {code.Push, 0, 5}}, slices.Repeat([]ins{{code.Get, 0, 0}}, 62)...)
	mainOf(t, "array a 1; keep "+strings.Repeat("a[", 62)+"5"+strings.Repeat("]", 62)+";", append(gets, ins{code.Keep, 0, 0})...)
	right := slices.Concat(slices.Repeat([]ins{{code.Push, 0, 1}}, 63), slices.Repeat([]ins{{code.Sub, 0, 0}}, 62), []ins{{code.Print, 0, 0}})
	mainOf(t, "print "+strings.Repeat("1-(", 61)+"1-1"+strings.Repeat(")", 61)+";", right...)
	for n := range 32 {
		isReadBack(t, program(t, strings.Repeat("while w { if v { } else { ", n)+"print "+strings.Repeat("!", 62-2*n)+"x;"+strings.Repeat("} } ", n)))
	}
}

// I1: places far away: long blocks, and many of them.
func TestI1FarAway(t *testing.T) {
	for _, n := range []int{100, 127, 128, 300, 20000, 40000} {
		body := slices.Repeat([]api.Stmt{do(api.Print, "", number(1))}, n)
		l := slices.Repeat([]ins{{code.Push, 0, 1}, {code.Print, 0, 0}}, n)
		loop := api.Stmt{Op: api.While, L: []api.Expr{number(2)}, Body: body}
		want := slices.Concat(l, []ins{{code.Push, 0, 2}, {code.Zero, 4*n + 3, 0}}, l, []ins{{code.Jump, 2 * n, 0}})
		compiles(t, fmt.Sprint("while ", n), api.Program{Main: append(slices.Clone(body), loop)}, fn{l: want})
		choice := api.Stmt{Op: api.If, L: []api.Expr{number(2)}, Body: body, Else: body}
		want = slices.Concat([]ins{{code.Push, 0, 2}, {code.Zero, 2*n + 3, 0}}, l, []ins{{code.Jump, 4*n + 3, 0}}, l)
		compiles(t, fmt.Sprint("if ", n), first(choice), fn{l: want})
	}
}
