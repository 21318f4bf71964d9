package tree

import (
	"fmt"
	"iter"
	"math"
	"math/rand"
	"reflect"
	"slices"
	"testing"

	"evenhand/api"
)

// edit makes another program in one place alone.
type edit struct {
	what string
	do   func()
}

// edits are all of them that this program has a place for.
func edits(p *api.Program) []edit {
	var l []edit
	add := func(what string, do func()) { l = append(l, edit{what, do}) }
	editList(add, "functions", &p.Funcs)
	editList(add, "main", &p.Main)
	for i := range p.Funcs {
		f, at := &p.Funcs[i], fmt.Sprint("function ", i)
		editText(add, at+": Name", &f.Name)
		editList(add, at+": Params", &f.Params)
		editList(add, at+": Body", &f.Body)
		for j := range f.Params {
			editText(add, at+": parameter "+fmt.Sprint(j), &f.Params[j])
		}
	}
	stmts, exprs, _ := reach(p)
	for i, s := range stmts {
		at := fmt.Sprint("statement ", i, " ", s.Op)
		editNumber(add, at, &s.Op, &s.N)
		editText(add, at+": Name", &s.Name)
		editList(add, at+": L", &s.L)
		editList(add, at+": Body", &s.Body)
		editList(add, at+": Else", &s.Else)
		if len(s.Body) > 0 || len(s.Else) > 0 {
			add(at+": Body and Else change places", func() { s.Body, s.Else = s.Else, s.Body })
		}
		if n := len(s.Body); n > 0 {
			add(at+": the last of Body is the first of Else", func() {
				s.Body, s.Else = s.Body[:n-1], append([]api.Stmt{s.Body[n-1]}, s.Else...)
			})
		}
	}
	for i, e := range exprs {
		at := fmt.Sprint("expression ", i, " ", e.Op)
		editNumber(add, at, &e.Op, &e.N)
		editText(add, at+": Name", &e.Name)
		editList(add, at+": L", &e.L)
	}
	return l
}

// editions are the program with each of its edits alone, and what that is.
func editions(p api.Program) iter.Seq2[string, api.Program] {
	return func(yield func(string, api.Program) bool) {
		n := len(edits(&p))
		for i := range n {
			q := clone(p, true)
			e := edits(&q)[i]
			e.do()
			if !yield(e.what, q) {
				return
			}
		}
	}
}

func editNumber(add func(string, func()), at string, op *int, n *int64) {
	for _, by := range []int{1, -1, 1 << 32} {
		add(fmt.Sprint(at, ": Op by ", by), func() { *op += by })
		add(fmt.Sprint(at, ": N by ", by), func() { *n += int64(by) })
	}
}

func editText(add func(string, func()), at string, s *string) {
	for _, x := range []string{*s + "x", "x" + *s, *s + "\x00", *s + " "} {
		add(fmt.Sprintf("%s: %q", at, x), func() { *s = x })
	}
	if *s != "" {
		add(at+": none", func() { *s = "" })
		add(at+": the last byte", func() { *s = (*s)[:len(*s)-1] + "?" })
		add(at+": great or small", func() { *s = string([]byte{(*s)[0] ^ 32}) + (*s)[1:] })
	}
}

func editList[T any](add func(string, func()), at string, l *[]T) {
	var zero T
	add(at+": one more, behind", func() { *l = append(*l, zero) })
	add(at+": one more, ahead", func() { *l = append([]T{zero}, *l...) })
	if n := len(*l); n > 0 {
		add(at+": without the last", func() { *l = (*l)[:n-1] })
		add(at+": without the first", func() { *l = (*l)[1:] })
		add(at+": the last again", func() { *l = append(*l, (*l)[n-1]) })
		add(at+": the first is zero", func() { (*l)[0] = zero })
		add(at+": the last is zero", func() { (*l)[n-1] = zero })
		add(at+": none", func() { *l = nil })
	}
	if n := len(*l); n > 1 {
		add(at+": the other way round", func() { slices.Reverse(*l) })
	}
}

// both asks Equal in both orders.
func both(t *testing.T, what string, a, b api.Program, want bool) {
	t.Helper()
	if x, y := Equal(a, b), Equal(b, a); x != want || y != want {
		t.Errorf("%s: %v and %v, want %v", what, x, y, want)
	}
}

// C3: what is the same, in other memory.
func TestC3Same(t *testing.T) {
	both(t, "nothing", api.Program{}, api.Program{}, true)
	both(t, "itself", sample(), sample(), true)
	both(t, "its clone", sample(), clone(sample(), true), true)
	both(t, "nothing and all", api.Program{}, sample(), false)
	both(t, "functions and main", api.Program{Funcs: []api.Func{{}}}, first(api.Stmt{}), false)
	deepOne := deep("Body", 10000, num(1))
	both(t, "deep", deepOne, deep("Body", 10000, num(1)), true)
	both(t, "deep, other", deepOne, deep("Body", 10000, num(2)), false)
	both(t, "deep parts, other", deep("L", 10000, num(1)), deep("L", 10000, num(2)), false)
	both(t, "deeper", deep("Else", 9999, num(1)), deep("Else", 10000, num(1)), false)
}

// C3: a list that is empty is as none, in each place.
func TestC3Empty(t *testing.T) {
	for _, p := range []api.Program{
		{}, {Funcs: []api.Func{{}}}, {Funcs: []api.Func{{Name: "f"}}, Main: []api.Stmt{{}}},
		first(do(api.Print, api.Expr{})), first(api.Stmt{Op: api.If, Body: make([]api.Stmt, 2), Else: make([]api.Stmt, 1)}), sample(),
	} {
		none, empty := clone(p, true), clone(p, false)
		both(t, fmt.Sprintf("%+v", p), none, empty, true)
		both(t, fmt.Sprintf("%+v", p), empty, empty, true)
		if reflect.DeepEqual(none, empty) {
			t.Errorf("%+v has no list that is none", p)
		}
	}
	if Equal(api.Program{Main: []api.Stmt{}}, first(api.Stmt{})) {
		t.Errorf("no statement is as one that is zero")
	}
}

// C3: what differs in one place alone, in each place of the sample.
func TestC3OnePlace(t *testing.T) {
	p, n := sample(), 0
	for what, q := range editions(p) {
		if same(p, q) {
			t.Fatalf("%s: it changes nothing", what)
		}
		both(t, what, p, q, false)
		both(t, what+", with itself", q, clone(q, false), true)
		n++
	}
	if n < 1000 {
		t.Errorf("%d edits alone", n)
	}
}

// C3: what may not be is held against each other likewise.
func TestC3WrongOnes(t *testing.T) {
	zero := first(api.Stmt{})
	for i, s := range []api.Stmt{
		{Op: -1}, {Op: 1}, {Op: 99}, {Name: "x"}, {N: -1}, {N: math.MinInt64}, {L: make([]api.Expr, 1)}, {L: make([]api.Expr, 9)},
		{Body: make([]api.Stmt, 1)}, {Else: make([]api.Stmt, 1)}, {Name: "\xff"}, {Name: "\ufffd"},
	} {
		both(t, fmt.Sprint(i), zero, first(s), false)
		both(t, fmt.Sprint(i), first(s), first(s), true)
	}
	both(t, "bytes, not runes", first(api.Stmt{Name: "\xff"}), first(api.Stmt{Name: "\ufffd"}), false)
	for i, e := range []api.Expr{{Op: -1}, {Op: 1}, {Name: "x"}, {N: -1}, {L: make([]api.Expr, 1)}} {
		both(t, fmt.Sprint("expression ", i), first(do(0, api.Expr{})), first(do(0, e)), false)
	}
	for i, f := range []api.Func{{Name: "f"}, {Params: []string{""}}, {Body: make([]api.Stmt, 1)}} {
		both(t, fmt.Sprint("function ", i), api.Program{Funcs: make([]api.Func, 1)}, api.Program{Funcs: []api.Func{f}}, false)
	}
}

// C3: pairs of anything, and one edit of each, against the library's own way.
func TestC3Many(t *testing.T) {
	r := rand.New(rand.NewSource(6))
	count := map[bool]int{}
	for range 2000 {
		p, q := some(r), some(r)
		want := same(p, q)
		count[want]++
		both(t, fmt.Sprintf("%+v, %+v", p, q), p, q, want)
		c := clone(p, false)
		both(t, fmt.Sprintf("%+v", p), p, c, true)
		l := edits(&c)
		e := l[r.Intn(len(l))]
		e.do()
		both(t, fmt.Sprintf("%+v, %s", p, e.what), p, c, same(p, c))
	}
	if count[true] < 10 || count[false] < 10 {
		t.Errorf("%v: one of the kinds is not held to account", count)
	}
}
