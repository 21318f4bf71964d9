package eval

import (
	"fmt"
	"math"
	"slices"
	"strconv"
	"strings"
	"testing"

	"evenhand/api"
	"evenhand/parse"
)

const (
	least = math.MinInt64
	most  = math.MaxInt64
)

// asked is all that Eval is handed, but the program.
type asked struct {
	public, secret []int64
	fuel, quota    int64
	oracle         []int64
	given          bool
}

// enough is what most programs need.
func enough() asked {
	return asked{public: []int64{3, 5}, secret: []int64{8, 13}, fuel: 100000, quota: 1000}
}

func (a asked) of(p api.Program) api.Outcome {
	return Eval(p, api.Inputs{Public: a.public, Secret: a.secret}, a.fuel, a.quota, a.oracle, a.given)
}

// told is an outcome in short: its fields in order.
func told(o api.Outcome) string { return fmt.Sprint(o) }

// program is what a text says.
func program(t *testing.T, s string) api.Program {
	t.Helper()
	p, at, err := parse.Parse([]byte(s))
	if err != api.OK {
		t.Fatalf("%.300q is no program: %d, %v", s, at, err)
	}
	return p
}

// does asks what a text does, when it is handed this.
func (a asked) does(t *testing.T, s, want string) {
	t.Helper()
	if got := told(a.of(program(t, s))); got != want {
		t.Errorf("%.300q: %.300s, want %.300s", s, got, want)
	}
}

// prints asks that a text ends well, and prints this.
func prints(t *testing.T, s string, want ...int64) {
	t.Helper()
	out := enough().of(program(t, s))
	if out.Err != api.OK || !slices.Equal(out.Prints, want) {
		t.Errorf("%.300q: prints %d, %v, want %d", s, out.Prints, out.Err, want)
	}
}

// costs asks what a text costs, but for what stands behind its last statement, which
// is 3.
func costs(t *testing.T, s string, want int64) {
	t.Helper()
	out := enough().of(program(t, s))
	if out.Err != api.OK || out.Clock != want+3 {
		t.Errorf("%.300q: costs %d, %v, want %d", s, out.Clock-3, out.Err, want)
	}
}

// ends asks with which error a text ends, and what the clock is then.
func ends(t *testing.T, s string, want api.Errno, clock int64) {
	t.Helper()
	out := enough().of(program(t, s))
	if out.Err != want || out.Clock != clock || out.Result != 0 {
		t.Errorf("%.300q: %v, the clock is %d, the result %d, want %v and %d", s, out.Err, out.Clock, out.Result, want, clock)
	}
}

func ref(name string) api.Expr { return api.Expr{Op: api.Var, Name: name} }

func number(n int64) api.Expr { return api.Expr{Op: api.Const, N: n} }

func of(op int, name string, l ...api.Expr) api.Expr { return api.Expr{Op: op, Name: name, L: l} }

func do(op int, name string, l ...api.Expr) api.Stmt { return api.Stmt{Op: op, Name: name, L: l} }

func first(l ...api.Stmt) api.Program { return api.Program{Main: l} }

// written is a number as a text of the language says it.
func written(n int64) string {
	switch {
	case n == least:
		return "(-" + strconv.FormatInt(most, 10) + "-1)"
	case n < 0:
		return "(" + strconv.FormatInt(n, 10) + ")"
	}
	return strconv.FormatInt(n, 10)
}

// names are n different ones.
func names(head string, n int) (l []string) {
	for i := range n {
		l = append(l, head+strconv.Itoa(i))
	}
	return l
}

// each is a text for each name, that stands in it as @, one behind the other.
func each(l []string, s string) string {
	var out []string
	for _, name := range l {
		out = append(out, strings.ReplaceAll(s, "@", name))
	}
	return strings.Join(out, " ")
}
