package interp

import (
	"fmt"
	"math"
	"slices"
	"strconv"
	"strings"
	"testing"

	"evenhand/api"
	"evenhand/code"
)

const (
	least = math.MinInt64
	most  = math.MaxInt64
)

// asked is all that Run is handed, but the code.
type asked struct {
	public, secret []int64
	fuel, quota    int64
	tier           Tier
}

// enough is what most code needs.
func enough() asked {
	return asked{public: []int64{3, 5}, secret: []int64{8, 13}, fuel: 100000, quota: 10000}
}

func (a asked) of(c code.Code) api.Outcome {
	return Run(c, api.Inputs{Public: a.public, Secret: a.secret}, a.fuel, a.quota, a.tier)
}

// told is an outcome in short: its fields in order.
func told(o api.Outcome) string { return fmt.Sprint(o) }

// does asks what code does, when it is handed this.
func (a asked) does(t *testing.T, c code.Code, want string) {
	t.Helper()
	if got := told(a.of(c)); got != want {
		t.Errorf("%s%.300s, want %.300s", shown(c), got, want)
	}
}

// prints asks that a main ends well, and prints this.
func prints(t *testing.T, s string, want ...int64) {
	t.Helper()
	printed(t, alone(s), want...)
}

// printed asks the same of code.
func printed(t *testing.T, c code.Code, want ...int64) {
	t.Helper()
	out := enough().of(c)
	if out.Err != api.OK || !slices.Equal(out.Prints, want) {
		t.Errorf("%sprints %d, %v, want %d", shown(c), out.Prints, out.Err, want)
	}
}

// ends asks with which error code ends, and what the clock is then.
func ends(t *testing.T, c code.Code, want api.Errno, clock int64) {
	t.Helper()
	out := enough().of(c)
	if out.Err != want || out.Clock != clock || out.Result != 0 {
		t.Errorf("%s%v, the clock is %d, the result %d, want %v and %d", shown(c), out.Err, out.Clock, out.Result, want, clock)
	}
}

// shown is code as a text.
func shown(c code.Code) string {
	s := ""
	for _, f := range c.Fns {
		s += fmt.Sprintf("%d %d %d:\n%.1500s", f.Params, f.Vars, f.Arrays, code.Text(f.L))
	}
	return s[:min(len(s), 4000)]
}

// number is what a word says.
func number(word string) int64 {
	n, err := strconv.ParseInt(word, 10, 64)
	if err != nil {
		panic(word)
	}
	return n
}

// written are the instructions that a text says: names parted by commas, behind each
// its A, if it has one, then its N, if it has one.
func written(s string) (l []code.Ins) {
	for _, part := range strings.Split(s, ",") {
		words := strings.Fields(part)
		if len(words) == 0 {
			continue
		}
		in := code.Ins{Op: named(words[0])}
		if words = words[1:]; in.Op != code.Push && len(words) > 0 {
			in.A = int(number(words[0]))
			words = words[1:]
		}
		if len(words) > 0 {
			in.N = number(words[0])
		}
		l = append(l, in)
	}
	return l
}

// named is the op of a name; 99, that is none, of `none`.
func named(name string) int {
	for op := 1; op <= 25; op++ {
		if code.Name(op) == name {
			return op
		}
	}
	if name != "none" {
		panic(name)
	}
	return 99
}

// fn is a function of these instructions, with some variables, and two arrays.
func fn(params int, s string) code.Fn {
	return code.Fn{Params: params, Vars: params + 3, Arrays: 2, L: written(s)}
}

// all is code of functions; the first text is main's, behind each other one stands
// the number of its Params.
func all(main string, l ...any) code.Code {
	c := code.Code{Fns: []code.Fn{fn(0, main)}}
	for i := 0; i < len(l); i += 2 {
		c.Fns = append(c.Fns, fn(l[i+1].(int), l[i].(string)))
	}
	return c
}

func alone(main string) code.Code { return all(main) }

// over is what stands behind a main that returns 0; it costs 3.
const over = ", push 0, return"

// times is a text again and again.
func times(n int, s string) string { return strings.Repeat(s+", ", n) }

func text(n int64) string { return strconv.FormatInt(n, 10) }

// cloned is code that shares nothing with another one.
func cloned(c code.Code) code.Code {
	c.Fns = slices.Clone(c.Fns)
	for i := range c.Fns {
		c.Fns[i].L = slices.Clone(c.Fns[i].L)
	}
	return c
}

// tells is a tier that answers always the same, and notes what it was asked.
type tells struct {
	body   []code.Ins
	fast   bool
	charge int64
	log    []string
}

func (x *tells) Enter(fn int, args []int64) ([]code.Ins, bool, int64) {
	x.log = append(x.log, fmt.Sprint(fn, args))
	return x.body, x.fast, x.charge
}

// answers is a tier that is a function.
type answers func(fn int, args []int64) ([]code.Ins, bool, int64)

func (x answers) Enter(fn int, args []int64) ([]code.Ins, bool, int64) { return x(fn, args) }

// with is what most code needs, and a tier.
func with(x Tier) asked {
	a := enough()
	a.tier = x
	return a
}

// only is a tier that tells a body for one function, and nothing for all others.
func only(fn int, body []code.Ins, fast bool) Tier {
	return answers(func(of int, _ []int64) ([]code.Ins, bool, int64) {
		if of != fn {
			return nil, false, 0
		}
		return body, fast, 0
	})
}
