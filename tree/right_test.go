package tree

import (
	"math"
	"math/rand"
	"reflect"
	"regexp"
	"slices"
	"strings"
	"testing"

	"evenhand/api"
)

// stmtMay and exprMay are the chapter's lists, with the ops' numbers of
// DOC.md: may a thing with this many parts be, if its parts may be?
func stmtMay(s api.Stmt) bool {
	name, parts := known(s.Name), len(s.L)
	no := s.Name == ""
	flat := len(s.Body) == 0 && len(s.Else) == 0
	switch s.Op {
	case 1:
		return name && parts == 1 && s.N == 0 && flat
	case 2:
		return name && parts == 2 && s.N == 0 && flat
	case 3:
		return name && parts == 0 && 1 <= s.N && s.N <= 4096 && flat
	case 4:
		return name && parts == 0 && s.N == 0 && flat
	case 5, 6, 9:
		return no && parts == 1 && s.N == 0 && flat
	case 7:
		return no && parts == 1 && s.N == 0
	case 8:
		return no && parts == 1 && s.N == 0 && len(s.Else) == 0
	}
	return false
}

func exprMay(e api.Expr) bool {
	name, parts := known(e.Name), len(e.L)
	no := e.Name == ""
	switch e.Op {
	case 1:
		return no && parts == 0 && e.N >= 0
	case 2:
		return name && parts == 0 && e.N == 0
	case 3:
		return no && parts == 0 && e.N == 0
	case 4:
		return name && parts == 1 && e.N == 0
	case 5:
		return name && parts <= 8 && e.N == 0
	case 6, 7:
		return no && parts == 1 && e.N == 0
	case 8, 9, 10, 11, 12, 13, 14, 15, 16:
		return no && parts == 2 && e.N == 0
	}
	return false
}

var word = regexp.MustCompile(`^[A-Za-z][A-Za-z0-9_]{0,31}$`)

func known(name string) bool { return word.MatchString(name) && !slices.Contains(keywords(), name) }

// mayBe is what Right must tell, apart from the program's own way.
func mayBe(p api.Program) api.Errno {
	may := len(p.Funcs) <= 32
	for _, f := range p.Funcs {
		may = may && known(f.Name) && len(f.Params) <= 8
		for _, s := range f.Params {
			may = may && known(s)
		}
	}
	stmts, exprs, levels := reach(&p)
	for _, s := range stmts {
		may = may && stmtMay(*s)
	}
	for _, e := range exprs {
		may = may && exprMay(*e)
	}
	if may && levels > 64 {
		return api.ErrDepth
	}
	return told(may)
}

func told(may bool) api.Errno {
	if may {
		return api.OK
	}
	return api.ErrArg
}

// held is a program that has the expression in each place in which one may
// stand, of a function and of main, beside and inside of right ones.
func held(e api.Expr) map[string]api.Program {
	one := num(1)
	where := map[string]api.Stmt{
		"Assign": {Op: api.Assign, Name: "x", L: []api.Expr{e}},
		"Put at": {Op: api.Put, Name: "x", L: []api.Expr{e, one}},
		"Put":    {Op: api.Put, Name: "x", L: []api.Expr{one, e}},
		"Print":  do(api.Print, e),
		"Keep":   do(api.Keep, e),
		"If":     do(api.If, e),
		"While":  do(api.While, e),
		"Return": do(api.Return, e),
		"Index":  do(api.Print, api.Expr{Op: api.Index, Name: "x", L: []api.Expr{e}}),
		"Call":   do(api.Print, api.Expr{Op: api.Call, Name: "x", L: []api.Expr{one, one, one, one, one, one, one, e}}),
		"Neg":    do(api.Print, of(api.Neg, e)),
		"left":   do(api.Print, of(api.Add, e, one)),
		"right":  do(api.Print, of(api.Or, one, e)),
		"deep":   do(api.Print, of(api.Not, of(api.Sub, one, of(api.Neg, of(api.Mul, e, one))))),
	}
	out := map[string]api.Program{}
	for name, s := range where {
		for in, p := range stood(s) {
			out[name+", "+in] = p
		}
	}
	return out
}

// stood is a program that has the statement in each place in which one may stand.
func stood(s api.Stmt) map[string]api.Program {
	l := []api.Stmt{do(api.Print, num(1)), s, do(api.Print, num(2))}
	block := func(op int, body, other []api.Stmt) api.Stmt {
		return api.Stmt{Op: op, L: []api.Expr{num(1)}, Body: body, Else: other}
	}
	right := l[:1]
	return map[string]api.Program{
		"alone":           first(s),
		"first":           first(l[1:]...),
		"between":         first(l...),
		"last":            first(l[:2]...),
		"then":            first(block(api.If, l, nil)),
		"then, with else": first(block(api.If, l, right)),
		"else":            first(block(api.If, nil, l)),
		"else, with then": first(block(api.If, right, l)),
		"loop":            first(block(api.While, l, nil)),
		"deep":            first(block(api.While, []api.Stmt{block(api.If, right, []api.Stmt{block(api.If, l, right)})}, nil)),
		"function":        {Funcs: []api.Func{{Name: "f", Body: l}}, Main: right},
		"function's else": {Funcs: []api.Func{{Name: "f", Body: []api.Stmt{block(api.If, nil, l)}}}},
		"second function": {Funcs: []api.Func{{Name: "f", Body: right}, {Name: "g", Body: l}}, Main: right},
	}
}

// C2: a program of nothing, the chapter's example, and one that has all.
func TestC2Ordinary(t *testing.T) {
	for _, x := range []struct {
		p           api.Program
		depth, size int
	}{
		{api.Program{}, 0, 0},
		{api.Program{Funcs: []api.Func{}, Main: []api.Stmt{}}, 0, 0},
		{api.Program{Funcs: []api.Func{{Name: "f"}, {Name: "g", Params: []string{"a", "b"}}}}, 0, 0},
		{first(api.Stmt{Op: api.Assign, Name: "x", L: []api.Expr{num(1)}}), 2, 2},
		{first(api.Stmt{Op: api.Input, Name: "x"}), 1, 1},
		{first(api.Stmt{Op: api.Array, Name: "x", N: 7}), 1, 1},
		{first(do(api.Print, of(api.Add, num(1), of(api.Neg, num(2))))), 4, 5},
		{first(do(api.Print, of(api.Add, of(api.Neg, num(2)), num(1)))), 4, 5},
		{api.Program{Funcs: []api.Func{{Name: "f", Body: []api.Stmt{do(api.Return, num(1))}}}}, 2, 2},
		{sample(), 5, 114},
	} {
		if d, n, err := Depth(x.p), Size(x.p), Right(x.p); d != x.depth || n != x.size || err != api.OK {
			t.Errorf("%+v: Depth %d, Size %d, %v", x.p, d, n, err)
		}
	}
}

// C2: each op of an expression, and what is none, with all names, numbers and
// counts of parts, in each place.
func TestC2Expressions(t *testing.T) {
	ops := []int{math.MinInt, -1, 17, 18, 255, 257, math.MaxInt}
	for op := range 17 {
		ops = append(ops, op)
	}
	mays := 0
	for _, op := range ops {
		for _, name := range []string{"", "x", name32, "clock", "9", name32 + "5"} {
			for _, n := range []int64{math.MinInt64, -1, 0, 1, math.MaxInt64} {
				for _, parts := range []int{0, 1, 2, 3, 8, 9, 10} {
					e := api.Expr{Op: op, Name: name, N: n, L: slices.Repeat([]api.Expr{num(1)}, parts)}
					if got := Right(first(do(api.Print, e))); got != told(exprMay(e)) {
						t.Errorf("%+v: %v", e, got)
					}
					if exprMay(e) {
						mays++
						inEachPlace(t, e, api.OK)
					}
				}
			}
		}
	}
	if want := 3 + 2*1 + 1 + 2*1 + 2*5 + 2 + 9; mays != want {
		t.Errorf("%d may be, want %d", mays, want)
	}
	for _, e := range []api.Expr{{}, num(-1), {Op: 17}, variable("if"), {Op: api.Clock, N: 1}, of(api.Neg), of(api.Add, num(1)), of(api.Const, num(1))} {
		inEachPlace(t, e, api.ErrArg)
	}
}

func inEachPlace(t *testing.T, e api.Expr, want api.Errno) {
	t.Helper()
	for where, p := range held(e) {
		if got := Right(p); got != want {
			t.Errorf("%+v, %s: %v", e, where, got)
		}
	}
}

// C2: each op of a statement, and what is none, with all names, numbers, counts
// of parts, bodies and elses.
func TestC2Statements(t *testing.T) {
	ops := []int{math.MinInt, -1, 10, 11, 16, 257, math.MaxInt}
	for op := range 10 {
		ops = append(ops, op)
	}
	body := []api.Stmt{do(api.Print, num(1)), {Op: api.Input, Name: "x"}}
	lists := [][]api.Stmt{nil, {}, body[:1], body}
	mays := 0
	for _, op := range ops {
		for _, name := range []string{"", "x", name32, "else", "_x"} {
			for _, n := range []int64{math.MinInt64, -1, 0, 1, 4096, 4097, math.MaxInt64} {
				for parts := range 4 {
					for i := range 16 {
						s := api.Stmt{Op: op, Name: name, N: n, L: slices.Repeat([]api.Expr{num(1)}, parts), Body: lists[i/4], Else: lists[i%4]}
						if got := Right(first(s)); got != told(stmtMay(s)) {
							t.Errorf("%+v: %v", s, got)
						}
						if stmtMay(s) {
							mays++
						}
					}
				}
			}
		}
	}
	if want := 2*4 + 2*4 + 2*2*4 + 2*4 + 3*4 + 16 + 8; mays != want {
		t.Errorf("%d may be, want %d", mays, want)
	}
}

// C2: a wrong statement is found wherever it stands, a right one is right there.
func TestC2EachPlaceOfStatements(t *testing.T) {
	check := func(s api.Stmt, want api.Errno) {
		for where, p := range stood(s) {
			if got := Right(p); got != want {
				t.Errorf("%+v, %s: %v", s, where, got)
			}
		}
	}
	x, one := "x", []api.Expr{num(1)}
	for _, s := range []api.Stmt{
		{Op: api.Assign, Name: x, L: one}, {Op: api.Put, Name: x, L: []api.Expr{num(1), num(2)}}, {Op: api.Array, Name: x, N: 1}, {Op: api.Input, Name: x},
		{Op: api.Print, L: one}, {Op: api.Keep, L: one}, {Op: api.If, L: one}, {Op: api.While, L: one}, {Op: api.Return, L: one},
	} {
		check(s, api.OK)
	}
	for _, s := range []api.Stmt{
		{}, {Op: 10, L: one}, {Op: -1}, {Op: api.Assign, L: one}, {Op: api.Assign, Name: x}, {Op: api.Array, Name: x}, {Op: api.Array, Name: x, N: 4097},
		{Op: api.Array, Name: x, N: 1, L: one}, {Op: api.Input, Name: "input"}, {Op: api.Input, Name: x, N: 1}, {Op: api.Input, Name: x, L: one},
		{Op: api.Print, Name: x, L: one}, {Op: api.Print}, {Op: api.If}, {Op: api.While, L: one, Else: make([]api.Stmt, 1)},
		{Op: api.Keep, L: one, Body: []api.Stmt{do(api.Keep, num(1))}}, {Op: api.Return, L: one, Else: []api.Stmt{do(api.Keep, num(1))}},
	} {
		check(s, api.ErrArg)
	}
}

// C2: at most 32 functions, with names, and at most 8 names of parameters.
func TestC2Functions(t *testing.T) {
	params := strings.Fields("a b c d e f g h i")
	long := slices.Repeat([]string{name32}, 8)
	for _, x := range []struct {
		f    api.Func
		want api.Errno
	}{
		{api.Func{Name: "f"}, api.OK}, {api.Func{Name: "F_1"}, api.OK}, {api.Func{Name: name32, Params: long}, api.OK},
		{api.Func{Name: "f", Params: params[:1]}, api.OK}, {api.Func{Name: "f", Params: params[:8]}, api.OK}, {api.Func{Name: "f", Params: params[:9]}, api.ErrArg},
		{api.Func{Name: "f", Params: []string{"f", "f"}}, api.OK}, {api.Func{Name: "a", Params: slices.Repeat([]string{"a"}, 100)}, api.ErrArg},
		{api.Func{}, api.ErrArg}, {api.Func{Params: params[:1]}, api.ErrArg}, {api.Func{Name: "func"}, api.ErrArg}, {api.Func{Name: "1"}, api.ErrArg}, {api.Func{Name: name32 + "x"}, api.ErrArg},
		{api.Func{Name: "f", Params: []string{""}}, api.ErrArg}, {api.Func{Name: "f", Params: []string{"a", "if"}}, api.ErrArg}, {api.Func{Name: "f", Params: []string{"_", "a"}}, api.ErrArg},
		{api.Func{Name: "f", Params: append(long[:7:7], "")}, api.ErrArg}, {api.Func{Name: "f", Params: []string{name32 + "x"}}, api.ErrArg},
		{api.Func{Name: "f", Body: []api.Stmt{{}}}, api.ErrArg}, {api.Func{Name: "f", Body: []api.Stmt{do(api.Keep, num(-1))}}, api.ErrArg},
	} {
		for n := range 40 {
			l := slices.Repeat([]api.Func{{Name: "f"}}, n)
			for _, p := range []api.Program{{Funcs: append(l[:n:n], x.f)}, {Funcs: append([]api.Func{x.f}, l...), Main: sample().Main}} {
				want := x.want
				if n+1 > 32 {
					want = api.ErrArg
				}
				if got := Right(p); got != want {
					t.Errorf("%+v beside %d: %v", x.f, n, got)
				}
			}
		}
	}
}

// deep is a program of this Depth, from 2 on, that goes down by parts of
// expressions, by Body or by Else; bottom is what stands lowest.
func deep(by string, depth int, bottom api.Expr) api.Program {
	s := do(api.Print, bottom)
	for n := 2; n < depth; n++ {
		switch by {
		case "L":
			s.L = []api.Expr{of(api.Neg, s.L...)}
		case "left", "right":
			l := []api.Expr{s.L[0], num(7)}
			if by == "right" {
				slices.Reverse(l)
			}
			s.L = []api.Expr{of(api.Sub, l...)}
		case "Body":
			s = api.Stmt{Op: api.While, L: []api.Expr{num(1)}, Body: []api.Stmt{s}}
		case "Else":
			s = api.Stmt{Op: api.If, L: []api.Expr{num(1)}, Else: []api.Stmt{s}}
		}
	}
	return first(s)
}

// C2: a Depth of 64 is right, of 65 it is not, by whatever it is so deep; what
// is wrong and too deep is wrong. Ten thousand is the most that is asked for.
func TestC2Depths(t *testing.T) {
	more := map[string]int{"L": 1, "left": 2, "right": 2, "Body": 2, "Else": 2}
	for by, each := range more {
		for _, n := range []int{2, 3, 63, 64, 65, 66, 1000, 10000} {
			want, size := api.OK, 2+each*(n-2)
			if n > 64 {
				want = api.ErrDepth
			}
			p, wrong := deep(by, n, num(1)), deep(by, n, num(-1))
			if got := Right(p); got != want || Depth(p) != n || Size(p) != size {
				t.Errorf("%d by %s: %v, Depth %d, Size %d", n, by, got, Depth(p), Size(p))
			}
			if got := Right(wrong); got != api.ErrArg || Depth(wrong) != n || Size(wrong) != size {
				t.Errorf("%d by %s, and wrong: %v, Depth %d, Size %d", n, by, got, Depth(wrong), Size(wrong))
			}
		}
	}
}

// C2: a program is as deep as the deepest of its statements, wherever that stands.
func TestC2DeepestStatement(t *testing.T) {
	all := sample()
	for n, want := range map[int]api.Errno{6: api.OK, 64: api.OK, 65: api.ErrDepth} {
		l := deep("Else", n, num(1)).Main
		for where, p := range map[string]api.Program{
			"main":           {Funcs: all.Funcs, Main: l},
			"main, last":     {Main: append(all.Main[:3:3], l...)},
			"main, first":    {Main: append(l[:1:1], all.Main...)},
			"function":       {Funcs: []api.Func{{Name: "f", Body: l}}},
			"first function": {Funcs: append([]api.Func{{Name: "f", Body: l}}, all.Funcs...), Main: all.Main},
			"last function":  {Funcs: append(all.Funcs[:2:2], api.Func{Name: "h", Body: append(all.Main[:2:2], l...)}), Main: all.Main},
		} {
			if got := Right(p); got != want || Depth(p) != n {
				t.Errorf("%d, %s: %v, Depth %d", n, where, got, Depth(p))
			}
		}
	}
}

// C2: what is wrong beside, ahead of or outside of what is too deep is told, not that.
func TestC2WrongAndTooDeep(t *testing.T) {
	p := deep("Body", 100, num(1))
	bad := do(api.Print, num(-1))
	inside := p.Main[0]
	inside.N = 1
	for i, w := range []api.Program{
		first(bad, p.Main[0]), first(p.Main[0], bad), first(inside),
		{Funcs: make([]api.Func, 1), Main: p.Main},
		{Funcs: []api.Func{{Name: "f", Params: []string{"9"}}}, Main: p.Main},
		{Funcs: []api.Func{{Name: "f", Body: []api.Stmt{bad}}}, Main: p.Main},
		{Funcs: []api.Func{{Name: "f", Body: p.Main}}, Main: []api.Stmt{bad}},
		{Funcs: slices.Repeat([]api.Func{{Name: "f"}}, 33), Main: p.Main},
	} {
		if got := Right(w); got != api.ErrArg {
			t.Errorf("%d: %v", i, got)
		}
	}
}

// C2: Depth and Size look at all parts, also at those that may not be there.
func TestC2DepthAndSizeOfWrongOnes(t *testing.T) {
	l := []api.Stmt{do(api.Print, num(1))}
	for i, x := range []struct {
		p           api.Program
		depth, size int
	}{
		{first(api.Stmt{}), 1, 1},
		{first(api.Stmt{L: make([]api.Expr, 3)}), 2, 4},
		{first(api.Stmt{Op: 99, Body: l, Else: l}), 3, 5},
		{first(api.Stmt{Op: api.Input, Body: l}), 3, 3},
		{first(api.Stmt{Op: api.While, Else: l}), 3, 3},
		{first(do(api.Print, of(api.Const, of(api.Clock, of(-1))))), 4, 4},
		{api.Program{Funcs: make([]api.Func, 40), Main: l}, 2, 2},
		{api.Program{Funcs: []api.Func{{Body: l}, {Body: append(l[:1:1], l...)}}}, 2, 6},
	} {
		if d, n := Depth(x.p), Size(x.p); d != x.depth || n != x.size || Right(x.p) != api.ErrArg && i < 7 {
			t.Errorf("%+v: Depth %d, Size %d", x.p, d, n)
		}
	}
}

// C2: programs of anything, against what is found level by level.
func TestC2Many(t *testing.T) {
	r := rand.New(rand.NewSource(4))
	for range 10000 {
		p := some(r)
		stmts, exprs, levels := reach(&p)
		if d, n := Depth(p), Size(p); d != levels || n != len(stmts)+len(exprs) {
			t.Fatalf("%+v: Depth %d, Size %d, want %d and %d", p, d, n, levels, len(stmts)+len(exprs))
		}
		if got, want := Right(p), mayBe(p); got != want {
			t.Fatalf("%+v: %v, want %v", p, got, want)
		}
	}
}

// C2: the sample, with another thing in one place alone, is right just if that may be there.
func TestC2OnePlace(t *testing.T) {
	count := map[api.Errno]int{}
	for what, p := range editions(sample()) {
		want := mayBe(p)
		if got := Right(p); got != want {
			t.Errorf("%s: %v, want %v", what, got, want)
		}
		count[want]++
	}
	if count[api.OK] < 100 || count[api.ErrArg] < 100 {
		t.Errorf("%v: one of the kinds is not held to account", count)
	}
}

// C2: each part of the sample, made wrong alone, makes all of it wrong; what is
// right has no part that is not.
func TestC2WhatFollows(t *testing.T) {
	p := sample()
	stmts, exprs, _ := reach(&p)
	for i, s := range stmts {
		if got := Right(first(*s)); got != api.OK {
			t.Errorf("statement %d alone: %v", i, got)
		}
		was := *s
		s.Op += 100
		if got := Right(p); got != api.ErrArg {
			t.Errorf("statement %d with no op: %v", i, got)
		}
		*s = was
		s.N--
		if got, want := Right(p), told(was.Op == api.Array); got != want {
			t.Errorf("statement %d with another N: %v", i, got)
		}
		*s = was
	}
	for i, e := range exprs {
		if got := Right(first(do(api.Print, *e))); got != api.OK {
			t.Errorf("expression %d alone: %v", i, got)
		}
		was := *e
		e.Op = 0
		if got := Right(p); got != api.ErrArg {
			t.Errorf("expression %d with no op: %v", i, got)
		}
		*e = was
	}
	if !reflect.DeepEqual(p, sample()) || Right(p) != api.OK {
		t.Errorf("the sample is another one: %v", Right(p))
	}
}

// R1: what is handed over stays as it was, behind its lists' ends too.
func TestC2ProgramsStay(t *testing.T) {
	p := sample()
	part := api.Program{Funcs: p.Funcs[:1], Main: p.Main[:2]}
	for _, x := range []api.Program{p, part, deep("Body", 70, num(-1))} {
		was := clone(x, true)
		Right(x)
		Depth(x)
		Size(x)
		Equal(x, p)
		Equal(was, x)
		if !same(x, was) || !same(p, sample()) {
			t.Errorf("%+v became %+v", was, x)
		}
	}
}
