package code

import (
	"fmt"
	"math"
	"math/rand"
	"slices"
	"strings"
	"testing"
)

// H3: the chapter's example.
func TestH3Example(t *testing.T) {
	texts(t, []Ins{{Op: Push, N: 5}, {Op: Return}}, "0 push 5\n1 return\n")
}

// H3: the name of each, written out.
func TestH3Name(t *testing.T) {
	words := strings.Fields("push load store neg not add sub mul div mod less same and or jump zero call return print keep input array get set clock")
	for i, want := range words {
		if got := Name(i + 1); got != want {
			t.Errorf("Name(%d): %q, want %q", i+1, got, want)
		}
	}
}

// H3: one of each kind, with an A and an N.
func TestH3EachKind(t *testing.T) {
	var l []Ins
	for op := 1; op <= 25; op++ {
		l = append(l, Ins{op, 30 + op, int64(op) - 100})
	}
	texts(t, l, `0 push -99
1 load 32
2 store 33
3 neg
4 not
5 add
6 sub
7 mul
8 div
9 mod
10 less
11 same
12 and
13 or
14 jump 45
15 zero 46
16 call 47
17 return
18 print
19 keep
20 input 51 -79
21 array 52 -78
22 get 53
23 set 54
24 clock
`)
	slices.Reverse(l)
	texts(t, l, lines(l))
	if s := Text(l); !strings.HasPrefix(s, "0 clock\n1 set 54\n2 get 53\n3 array 52 -78\n") || !strings.HasSuffix(s, "\n23 load 32\n24 push -99\n") {
		t.Error(s)
	}
}

// H3: no instructions are no lines.
func TestH3None(t *testing.T) {
	texts(t, nil, "")
	texts(t, []Ins{}, "")
	texts(t, make([]Ins, 0, 5), "")
}

// H3: Input and Array tell both, A first; a 0 is told too.
func TestH3InputAndArray(t *testing.T) {
	texts(t, []Ins{{Input, 0, 0}, {Input, 0, 1}, {Input, 1, 0}, {Input, 12, 1}}, "0 input 0 0\n1 input 0 1\n2 input 1 0\n3 input 12 1\n")
	texts(t, []Ins{{Array, 0, 1}, {Array, 1, 0}, {Array, 3, 4096}}, "0 array 0 1\n1 array 1 0\n2 array 3 4096\n")
	texts(t, []Ins{{Push, 1, 0}, {Load, 0, 1}, {Call, 0, 1}}, "0 push 0\n1 load 0\n2 call 0\n")
}

// H3: N below 0, the least and the greatest ones.
func TestH3N(t *testing.T) {
	texts(t, []Ins{{Op: Push, N: math.MinInt64}, {Op: Push, N: math.MaxInt64}, {Op: Push, N: -1}, {Op: Push}}, "0 push -9223372036854775808\n1 push 9223372036854775807\n2 push -1\n3 push 0\n")
	texts(t, []Ins{{Input, 1, math.MinInt64}, {Array, 1, math.MaxInt64}}, "0 input 1 -9223372036854775808\n1 array 1 9223372036854775807\n")
	for _, n := range numbers() {
		texts(t, []Ins{{Push, 1, n}}, fmt.Sprintf("0 push %d\n", n))
		texts(t, []Ins{{Input, 1, n}}, fmt.Sprintf("0 input 1 %d\n", n))
		texts(t, []Ins{{Array, 1, n}}, fmt.Sprintf("0 array 1 %d\n", n))
	}
}

// H3: A below 0, the least and the greatest ones.
func TestH3A(t *testing.T) {
	texts(t, []Ins{{Op: Load, A: -1}, {Op: Jump, A: math.MinInt}, {Op: Zero, A: math.MaxInt}, {Input, -3, -4}}, "0 load -1\n1 jump -9223372036854775808\n2 zero 9223372036854775807\n3 input -3 -4\n")
	for _, n := range numbers() {
		for _, word := range []string{"load", "store", "jump", "zero", "call", "get", "set"} {
			op := 1 + slices.IndexFunc(all(), func(x told) bool { return x.name == word })
			texts(t, []Ins{{op, int(n), 7}}, fmt.Sprintf("0 %s %d\n", word, n))
		}
		texts(t, []Ins{{Input, int(n), 7}}, fmt.Sprintf("0 input %d 7\n", n))
		texts(t, []Ins{{Array, int(n), 7}}, fmt.Sprintf("0 array %d 7\n", n))
	}
}

// H3: places of one digit and of several: each line begins with its own.
func TestH3Places(t *testing.T) {
	for _, n := range []int{1, 9, 10, 11, 99, 100, 101, 1000, 1001, 10001, 300000} {
		got := strings.SplitAfter(Text(slices.Repeat([]Ins{{Op: Clock}}, n)), "\n")
		if len(got) != n+1 || got[n] != "" {
			t.Fatal(n, "instructions,", len(got)-1, "lines")
		}
		for at, s := range got[:n] {
			if s != fmt.Sprintf("%d clock\n", at) {
				t.Fatalf("of %d: %q at %d", n, s, at)
			}
		}
	}
}

// draw is an instruction of anything, with a fixed source.
func draw(r *rand.Rand) Ins {
	in := Ins{r.Intn(25) + 1, r.Intn(40), int64(r.Intn(5000))}
	if l := notKnown(); r.Intn(10) == 0 {
		in.Op = l[r.Intn(len(l))]
	}
	if r.Intn(4) == 0 {
		in.A = -in.A
	}
	switch r.Intn(4) {
	case 0:
		in.N = -in.N
	case 1:
		in.N = int64(r.Uint64()) >> r.Intn(64)
	}
	return in
}

// H3: instructions of anything, against the words written out.
func TestH3Drawn(t *testing.T) {
	r := rand.New(rand.NewSource(8))
	for range 3000 {
		l := make([]Ins, r.Intn(120))
		for i := range l {
			l[i] = draw(r)
		}
		texts(t, l, lines(l))
	}
}

// H3, R1, R4: what is handed in stays as it was, the room behind it too; what is
// answered stays, whatever becomes of the list; and it is answered again.
func TestH3LeftAlone(t *testing.T) {
	r := rand.New(rand.NewSource(88))
	for range 200 {
		room := make([]Ins, 20)
		for i := range room {
			room[i] = draw(r)
		}
		was := slices.Clone(room)
		l := room[:r.Intn(20)]
		want := lines(l)
		got, again := Text(l), Text(l)
		if !slices.Equal(room, was) {
			t.Fatal("the list has become another")
		}
		clear(room)
		if got != want || again != want {
			t.Fatalf("%q and %q, want %q", got, again, want)
		}
	}
}
