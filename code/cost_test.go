package code

import "testing"

// answers are all that is told of an op alone.
type answers struct {
	known         bool
	takes, leaves int
	cost, fast    int64
	name          string
}

func ask(op int) answers {
	return answers{Known(op), Takes(op), Leaves(op), Cost(op), Fast(op), Name(op)}
}

// H2, H3: each instruction, as the chapter says it.
func TestH2EachInstruction(t *testing.T) {
	for _, x := range all() {
		want := answers{true, x.takes, x.leaves, x.cost, x.fast, x.name}
		if got := ask(x.number); got != want {
			t.Errorf("%d: %v, want %v", x.number, got, want)
		}
	}
}

// H2: 1 and 25 are the first and the last that are known.
func TestH2KnownEdges(t *testing.T) {
	for op := -100000; op <= 100000; op++ {
		if got := Known(op); got != (op >= 1 && op <= 25) {
			t.Errorf("Known(%d) is %v", op, got)
		}
	}
}

// H2: a Call takes none and leaves one, whatever function it calls.
func TestH2Call(t *testing.T) {
	if Takes(Call) != 0 || Leaves(Call) != 1 {
		t.Error(Takes(Call), Leaves(Call))
	}
}

// H2: Fast is half of Cost, rounded up: for odd ones and even ones.
func TestH2Fast(t *testing.T) {
	odd, even := 0, 0
	for op := 1; op <= 25; op++ {
		cost, fast := Cost(op), Fast(op)
		switch {
		case cost%2 == 1:
			odd++
			if fast+fast != cost+1 {
				t.Errorf("%d costs %d, fast %d", op, cost, fast)
			}
		default:
			even++
			if fast+fast != cost {
				t.Errorf("%d costs %d, fast %d", op, cost, fast)
			}
		}
	}
	if odd != 18 || even != 7 {
		t.Errorf("%d odd costs, %d even ones", odd, even)
	}
}

// H2: nothing costs less than 1, and nothing more when it is fast.
func TestH2Bounds(t *testing.T) {
	for op := 1; op <= 25; op++ {
		if cost, fast := Cost(op), Fast(op); fast < 1 || fast > cost {
			t.Errorf("%d costs %d, fast %d", op, cost, fast)
		}
	}
}

// H2: what operators of one, and of two, take is what api's do.
func TestH2Operators(t *testing.T) {
	for op := Neg; op <= Or; op++ {
		want := 2
		if op == Neg || op == Not {
			want = 1
		}
		if Takes(op) != want || Leaves(op) != 1 {
			t.Errorf("%d takes %d and leaves %d", op, Takes(op), Leaves(op))
		}
	}
}
