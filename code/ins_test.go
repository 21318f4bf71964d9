package code

import (
	"reflect"
	"testing"
)

// The numbers stand in whatever kind of number they are used as.
const (
	_ int8    = Push
	_ uint8   = Clock
	_ int64   = Call
	_ float64 = Return
	_ int     = Zero
)

// H1: each instruction has the number that is told, all are there, none twice.
func TestH1Numbers(t *testing.T) {
	l := all()
	if len(l) != 25 {
		t.Fatal(len(l), "instructions")
	}
	for i, x := range l {
		if x.op != x.number || x.op != i+1 {
			t.Errorf("%s is %d, want %d", x.name, x.op, x.number)
		}
	}
}

// field is a field's name and type.
type field struct{ name, of string }

func fields(v any) (l []field) {
	t := reflect.TypeOf(v)
	for i := range t.NumField() {
		l = append(l, field{t.Field(i).Name, t.Field(i).Type.String()})
	}
	return l
}

// H1: what an instruction, a function and code have, in order.
func TestH1Fields(t *testing.T) {
	for _, x := range []struct {
		v    any
		want []field
	}{
		{Ins{}, []field{{"Op", "int"}, {"A", "int"}, {"N", "int64"}}},
		{Fn{}, []field{{"Name", "string"}, {"Params", "int"}, {"Vars", "int"}, {"Arrays", "int"}, {"L", "[]code.Ins"}}},
		{Code{}, []field{{"Fns", "[]code.Fn"}}},
	} {
		if got := fields(x.v); !reflect.DeepEqual(got, x.want) {
			t.Errorf("%T has %v, want %v", x.v, got, x.want)
		}
	}
}

// H1: they are written without names, and held against each other.
func TestH1Values(t *testing.T) {
	a, b := Ins{Array, 3, 8}, Ins{Op: Array, A: 3, N: 8}
	if a != b || a == (Ins{Array, 3, 9}) || a == (Ins{Array, 2, 8}) || a == (Ins{Input, 3, 8}) {
		t.Error("instructions held against each other")
	}
	c := Code{[]Fn{{"", 0, 1, 2, []Ins{a}}, {"f", 1, 2, 0, nil}}}
	if f := c.Fns[0]; f.Name != "" || f.Params != 0 || f.Vars != 1 || f.Arrays != 2 || f.L[0] != b {
		t.Error(f)
	}
	if f := c.Fns[1]; f.Name != "f" || f.Params != 1 || f.Vars != 2 || f.Arrays != 0 || f.L != nil {
		t.Error(f)
	}
}
