package interp

import (
	"errors"
	"reflect"
	"slices"
	"testing"

	"evenhand/api"
	"evenhand/code"
)

// refuses asks that of code just ErrCode is told, whatever it is handed, that no tier is
// asked, and that it stays as it was.
func refuses(t *testing.T, c code.Code) {
	t.Helper()
	before := cloned(c)
	x := &tells{body: written("push 1, return"), fast: true, charge: 5}
	for _, a := range []asked{enough(), {}, {fuel: -1, quota: -1}, {fuel: most, quota: most}, with(x), {fuel: 0, tier: x}} {
		if out := a.of(c); !reflect.DeepEqual(out, api.Outcome{Err: api.ErrCode}) {
			t.Errorf("%s%s", shown(c), told(out))
		}
	}
	if !reflect.DeepEqual(cloned(c), before) || len(x.log) != 0 {
		t.Errorf("%sis not as it was, or was asked: %v", shown(c), x.log)
	}
}

// N2: of code that is not right: just ErrCode, wherever it is wrong.
func TestN2NotRight(t *testing.T) {
	refuses(t, code.Code{})
	refuses(t, code.Code{Fns: []code.Fn{}})
	refuses(t, code.Code{Fns: []code.Fn{{}}})
	short := written("push 0, return")
	refuses(t, code.Code{Fns: slices.Repeat([]code.Fn{{L: short}}, 34)})
	for _, f := range []code.Fn{
		{Params: -1, L: short}, {Params: 1, L: short}, {Params: 9, Vars: 9, L: short}, {Vars: -1, L: short}, {Vars: 65, L: short}, {Arrays: -1, L: short}, {Arrays: 65, L: short}, {Params: least, Vars: least, L: short}, {Vars: most, Arrays: most, L: short}, {},
	} {
		refuses(t, code.Code{Fns: []code.Fn{f}})
		refuses(t, code.Code{Fns: []code.Fn{{L: short}, f}})
		refuses(t, code.Code{Fns: []code.Fn{{L: written("call 1, return")}, f}})
	}
	refuses(t, code.Code{Fns: []code.Fn{{Params: 1, Vars: 1, L: short}}})
	for _, s := range wrong() {
		refuses(t, code.Code{Fns: []code.Fn{{Vars: 5, Arrays: 2, L: written(s)}, {Params: 2, Vars: 2, L: short}, {Params: 1, Vars: 1, L: short}}})
		for _, main := range []string{"push 1, print", "push 1, print, push 1, push 2, call 1, print", "jump 5, push 1, push 2, call 1, print"} {
			refuses(t, all(main+over, s, 2, "push 1, return", 1))
		}
	}
}

// N2, R2: numbers as large and as small as may be, wherever one may stand.
func TestN2WildNumbers(t *testing.T) {
	l := []int{least, least + 1, -1 << 32, -4097, -2, -1, 0, 1, 2, 3, 9, 64, 65, 4096, 4097, 1 << 31, 1 << 32, 1<<32 + 1, most - 1, most}
	right := 0
	for op := -1; op <= 27; op++ {
		for _, a := range l {
			for _, n := range l {
				in := code.Ins{Op: op, A: a, N: int64(n)}
				c := all("push 1, push 2, print, print"+over, "push 0, return", 1)
				c.Fns[0].L[2], c.Fns[0].Vars, c.Fns[0].Arrays = in, 64, 64
				x := &tells{body: []code.Ins{in, {Op: code.Push}, {Op: code.Return}}, fast: true, charge: int64(a)}
				for _, a := range []asked{{fuel: 300, quota: 5000, tier: x}, {fuel: int64(a), quota: int64(n), public: []int64{int64(a)}, secret: []int64{int64(n)}}} {
					a.fuel = min(a.fuel, 5000) // some go on without end
					if out := a.of(c); out.Err != api.ErrCode {
						right++
					}
				}
			}
		}
	}
	if right < 1000 {
		t.Errorf("%d alone are right", right)
	}
}

// N1, R2: a tier that panics has told nothing.
func TestN1TierPanics(t *testing.T) {
	c := all("push 3, call 1, print"+over, down, 1)
	want := told(enough().of(c))
	var none *tells
	var fails []int
	for _, x := range []Tier{
		none, answers(nil),
		answers(func(int, []int64) ([]code.Ins, bool, int64) { panic("no") }),
		answers(func(int, []int64) ([]code.Ins, bool, int64) { panic(api.ErrFuel) }),
		answers(func(int, []int64) ([]code.Ins, bool, int64) { panic(nil) }),
		answers(func(int, []int64) ([]code.Ins, bool, int64) { panic(errors.New("no")) }),
		answers(func(fn int, _ []int64) ([]code.Ins, bool, int64) { return nil, false, int64(fails[fn]) }),
		answers(func(_ int, args []int64) (body []code.Ins, fast bool, charge int64) {
			body, fast, charge = written("push 9, return"), true, 1000
			return body[:1:1], fast, charge / (args[0] - args[0])
		}),
	} {
		with(x).does(t, c, want)
	}
	// One that panics now and then tells what it tells at the other calls.
	x := answers(func(_ int, args []int64) ([]code.Ins, bool, int64) {
		if args[0]%2 == 0 {
			panic(args[0])
		}
		return c.Fns[1].L, false, 100
	})
	with(x).does(t, c, "{[7] [] [] 275 0 error 0}")
}

// N1, R1: what a tier told, and the code, and the inputs, may be written over by who owns
// them while it is asked again: what runs is what was right.
func TestN1WrittenOver(t *testing.T) {
	const main = "push 3, call 1, input 0 0, load 0, input 0 1, load 0, print, print, print" + over
	const body = "load 0, zero 8, load 0, push 1, sub, call 1, input 2 0, return, load 0, clock, return"
	a := enough()
	a.public, a.secret = []int64{31, 32, 33, 34, 35, 36}, []int64{41, 42}
	want := told(a.of(all(main, body, 1)))
	if want[:10] != "{[41 34 61" {
		t.Error(want)
	}
	c := all(main, body, 1)
	bodies := [][]code.Ins{}
	a.tier = answers(func(int, []int64) ([]code.Ins, bool, int64) {
		for _, l := range bodies {
			clear(l)
		}
		for i := range c.Fns {
			clear(c.Fns[i].L)
			c.Fns[i] = code.Fn{Params: -7, Vars: -5}
		}
		clear(a.public)
		clear(a.secret)
		bodies = append(bodies, written(body))
		return bodies[len(bodies)-1], false, 0
	})
	a.does(t, c, want)
	// One that tells always the same room, with another body in it.
	room := make([]code.Ins, 30)
	x := answers(func(_ int, args []int64) ([]code.Ins, bool, int64) {
		clear(room)
		n := copy(room, written([]string{"push 5, return", "push 6, push 0, call 1, add, push 1, add, return", "push 1, call 1, print, push 2, print, push 7, return"}[args[0]]))
		return room[:n], false, 0
	})
	with(x).does(t, all("push 2, call 1, print"+over, "push 0, return", 1), "{[12 2 7] [] [] 64 0 error 0}")
}

// N1, R1: and what a tier told stays as it was, also behind its end.
func TestN1LeftAlone(t *testing.T) {
	room := written("load 0, push 1, add, store 0, load 0, return, push 88, return, none")
	was := slices.Clone(room)
	x := &tells{body: room[:6], fast: true}
	with(x).does(t, all("push 4, call 1, print"+over, "push 0, return", 1), "{[5] [] [] 25 0 error 0}")
	if !slices.Equal(room, was) {
		t.Error(room)
	}
}

// owned is code in which all is done that may be.
func owned() code.Code {
	return all("input 0 0, input 1 1, load 0, load 1, call 1, print, array 0 5, push 4, load 1, set 0, push 4, get 0, keep, clock, keep, push 2, load 0, zero 19, jump 19, return", "load 0, load 1, mul, print, array 1 2, push 1, push 1, push 9, set 1, get 1, clock, print, keep, load 0, neg, not, call 2, return", 2, "input 0 0, load 0, return", 1)
}

// behind is a list out of a greater one, with other numbers behind it.
func behind(l ...int64) []int64 { return append(slices.Clone(l), 91, 92, 93)[:len(l)] }

// N2, R1: what is handed in stays as it was, also behind its end, and is not kept.
func TestN2LeavesAsItWas(t *testing.T) {
	c, a := owned(), enough()
	c.Fns = append(c.Fns, code.Fn{Params: -1})[:3]
	for i := range c.Fns {
		l := c.Fns[i].L
		c.Fns[i].L = append(l, written("none, none")...)[:len(l)]
	}
	a.public, a.secret = behind(3, 5), behind(8, 13)
	out := a.of(c)
	want := told(out)
	if out.Err != api.OK || out.Result != 2 || len(out.Prints) != 3 || len(out.Keeps) != 3 || len(out.Clocks) != 2 {
		t.Fatal(want)
	}
	if !reflect.DeepEqual(cloned(c), owned()) || c.Fns[:4][3].Params != -1 {
		t.Error(shown(c))
	}
	for _, f := range c.Fns {
		if l := f.L[:len(f.L)+2]; !slices.Equal(l[len(f.L):], written("none, none")) {
			t.Error(l)
		}
	}
	for l, want := range map[*[]int64][]int64{&a.public: {3, 5, 91, 92, 93}, &a.secret: {8, 13, 91, 92, 93}} {
		if !slices.Equal((*l)[:5], want) || len(*l) != 2 {
			t.Errorf("%v, want %v", (*l)[:5], want)
		}
		clear((*l)[:5])
	}
	for _, f := range c.Fns {
		clear(f.L)
	}
	if told(out) != want {
		t.Errorf("%s was %s", told(out), want)
	}
}

// N2, R1: an answer is the caller's: no two lists of it share any room, nor do two
// answers, nor an answer and what was handed in.
func TestN2SharesNothing(t *testing.T) {
	c, a := owned(), enough()
	out, other := a.of(c), a.of(c)
	want := told(other)
	for _, l := range []*[]int64{&out.Prints, &out.Keeps, &out.Clocks} {
		was := slices.Clone(*l)
		clear((*l)[:cap(*l)])
		*l = was
		if told(out) != want || told(other) != want {
			t.Errorf("%s, %s, want %s", told(out), told(other), want)
		}
	}
	if !slices.Equal(a.public, enough().public) || !slices.Equal(a.secret, enough().secret) || !reflect.DeepEqual(c, owned()) {
		t.Error(a, shown(c))
	}
	if got := told(a.of(c)); got != want {
		t.Errorf("%s, want %s", got, want)
	}
}

// N2, R3, R4: the same call has the same answer, whatever was asked in between, or by
// the tier within it.
func TestN2SameAgain(t *testing.T) {
	c := owned()
	want := told(enough().of(c))
	l := []code.Code{{}, alone("push 1, push 0, div" + over), alone("array 0 9, jump 0"), alone("input 0 0, input 1 1, clock, print, jump 0"), all("call 1, return", "call 1, return", 0), alone("push 5, return")}
	for _, other := range l {
		enough().of(other)
		if got := told(enough().of(c)); got != want {
			t.Errorf("%s was %s", got, want)
		}
	}
	x := answers(func(int, []int64) ([]code.Ins, bool, int64) {
		for _, other := range l {
			enough().of(other)
		}
		if got := told(enough().of(c)); got != want {
			t.Errorf("%s was %s", got, want)
		}
		return nil, false, 0
	})
	with(x).does(t, c, want)
}
