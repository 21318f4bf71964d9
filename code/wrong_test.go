package code

import (
	"fmt"
	"testing"
)

// H2, H3: of what is not known all answers are 0, and the name is `?`.
func TestH2WrongOps(t *testing.T) {
	for _, op := range notKnown() {
		if got := ask(op); got != (answers{name: "?"}) {
			t.Errorf("%d: %v", op, got)
		}
	}
	for op := -70000; op <= 70000; op++ {
		if got := ask(op); (op < 1 || op > 25) && got != (answers{name: "?"}) {
			t.Errorf("%d: %v", op, got)
		}
	}
}

// H3: of what is not known neither A nor N is told.
func TestH3WrongOps(t *testing.T) {
	for _, op := range notKnown() {
		for _, n := range numbers() {
			texts(t, []Ins{{op, int(n), 1}, {op, 1, n}, {Op: Return}}, "0 ?\n1 ?\n2 return\n")
		}
	}
	texts(t, []Ins{{}, {Push, 0, 3}, {26, 1, 1}, {Load, 4, 0}, {-1, -1, -1}, {Input, 5, 1}, {99, 0, 0}}, "0 ?\n1 push 3\n2 ?\n3 load 4\n4 ?\n5 input 5 1\n6 ?\n")
}

// H3: an A and an N that mean nothing are not told.
func TestH3WrongNumbers(t *testing.T) {
	for _, n := range numbers() {
		for _, word := range []string{"neg", "not", "add", "sub", "mul", "div", "mod", "less", "same", "and", "or", "return", "print", "keep", "clock"} {
			for _, x := range all() {
				if x.name == word {
					texts(t, []Ins{{x.number, int(n), 1}, {x.number, 1, n}, {x.number, int(n), n}}, fmt.Sprintf("0 %s\n1 %s\n2 %s\n", word, word, word))
				}
			}
		}
		texts(t, []Ins{{Push, int(n), 3}}, "0 push 3\n")
		texts(t, []Ins{{Load, 4, n}, {Store, 5, n}, {Jump, 6, n}, {Zero, 7, n}}, "0 load 4\n1 store 5\n2 jump 6\n3 zero 7\n")
		texts(t, []Ins{{Call, 8, n}, {Get, 9, n}, {Set, 10, n}}, "0 call 8\n1 get 9\n2 set 10\n")
	}
}
