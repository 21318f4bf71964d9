package scope

import (
	"slices"
	"strings"
	"testing"

	"evenhand/api"
)

func scopes(l ...string) (out []Scope) {
	for i, name := range l {
		out = append(out, Scope{Name: name, Params: i, Vars: []string{"v"}, Arrays: []string{"a"}})
	}
	return out
}

// F2: the first function of this Name; main is none, whatever its Name.
func TestF2Find(t *testing.T) {
	for _, x := range []struct {
		l    []Scope
		name string
		want int
	}{
		{nil, "", -1}, {nil, "f", -1}, {[]Scope{}, "f", -1},
		{scopes(""), "", -1}, {scopes(""), "f", -1}, {scopes("f"), "f", -1},
		{scopes("", "f"), "f", 1}, {scopes("", "f"), "", -1}, {scopes("", "f"), "F", -1}, {scopes("", "f"), "ff", -1}, {scopes("", "ff"), "f", -1}, {scopes("", "f"), "v", -1}, {scopes("", "f"), "a", -1},
		{scopes("", "f", "g", "h"), "f", 1}, {scopes("", "f", "g", "h"), "g", 2}, {scopes("", "f", "g", "h"), "h", 3}, {scopes("", "f", "g", "h"), "e", -1},
		{scopes("", "f", "g", "f"), "f", 1}, {scopes("", "g", "f", "f", "g"), "f", 2}, {scopes("", "g", "f", "f", "g"), "g", 1},
		{scopes("f", "g", "f"), "f", 2}, {scopes("f", "f", "f"), "f", 1}, {scopes("f", "g"), "f", -1},
		{scopes("", "f", ""), "", 2}, {scopes("", "", ""), "", 1}, {scopes("f", "if", "1"), "1", 2},
	} {
		if got := Find(x.l, x.name); got != x.want {
			t.Errorf("%q in %q: %d, want %d", x.name, told(x.l), got, x.want)
		}
	}
	l := scopes(names("f", 3000)...)
	for i, s := range l[1:] {
		if got := Find(l, s.Name); got != i+1 {
			t.Errorf("%s: %d, want %d", s.Name, got, i+1)
		}
	}
}

// F2: the first place of a name.
func TestF2Slot(t *testing.T) {
	for _, x := range []struct {
		l, name string
		want    int
	}{
		{"a", "a", 0}, {"a", "A", -1}, {"a", "b", -1}, {"a", "", -1}, {"a b c", "a", 0}, {"a b c", "b", 1}, {"a b c", "c", 2}, {"a b c", "d", -1}, {"a b c", "ab", -1}, {"ab bc", "b", -1},
		{"a b b", "b", 1}, {"b a b", "b", 0}, {"a b a b", "b", 1}, {"if 1 X", "X", 2}, {"if 1 X", "if", 0},
	} {
		if got := Slot(strings.Fields(x.l), x.name); got != x.want {
			t.Errorf("%q in %q: %d, want %d", x.name, x.l, got, x.want)
		}
	}
	if Slot(nil, "") != -1 || Slot(nil, "a") != -1 || Slot([]string{}, "") != -1 || Slot([]string{"a", ""}, "") != 1 || Slot([]string{"", "a", ""}, "") != 0 {
		t.Errorf("nothing, and the empty name")
	}
	l := names("v", 3000)
	for i, name := range l {
		if got := Slot(l, name); got != i {
			t.Errorf("%s: %d, want %d", name, got, i)
		}
	}
}

// F2, R1: what is handed in stays as it was.
func TestF2LeavesAsItWas(t *testing.T) {
	l, v := scopes("", "f", "g", "f"), []string{"b", "a", "b"}
	Find(l, "g")
	Slot(v, "a")
	if told(l) != told(scopes("", "f", "g", "f")) || !slices.Equal(v, []string{"b", "a", "b"}) {
		t.Errorf("%q, %q", told(l), v)
	}
}

// F1, F2: each name of a program that is resolved has one place.
func TestF2EachNameHasOnePlace(t *testing.T) {
	const text = "func f(a, B) { array c 1; c[a] = B + d; } func g() { array a 2; input f; } array f 1; x = f[y];"
	p := program(t, text)
	l, err := Resolve(p)
	if err != api.OK {
		t.Fatal(err)
	}
	for i, f := range p.Funcs {
		if Find(l, f.Name) != i+1 {
			t.Errorf("%s: %d", f.Name, Find(l, f.Name))
		}
		for j, name := range f.Params {
			if Slot(l[i+1].Vars, name) != j {
				t.Errorf("%s of %s: %d", name, f.Name, Slot(l[i+1].Vars, name))
			}
		}
	}
	for _, s := range l {
		for j, name := range s.Vars {
			if Slot(s.Vars, name) != j || Slot(s.Arrays, name) != -1 {
				t.Errorf("variable %s of %q", name, s.Name)
			}
		}
		for j, name := range s.Arrays {
			if Slot(s.Arrays, name) != j || Slot(s.Vars, name) != -1 {
				t.Errorf("array %s of %q", name, s.Name)
			}
		}
	}
}
