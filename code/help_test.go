package code

import (
	"fmt"
	"math"
	"strings"
	"testing"
)

// told is what the chapter says of an instruction, written out.
type told struct {
	op, number     int
	name           string
	takes, leaves  int
	cost, fast     int64
	meansA, meansN bool
}

func all() []told {
	return []told{
		{Push, 1, "push", 0, 1, 1, 1, false, true},
		{Load, 2, "load", 0, 1, 1, 1, true, false},
		{Store, 3, "store", 1, 0, 1, 1, true, false},
		{Neg, 4, "neg", 1, 1, 1, 1, false, false},
		{Not, 5, "not", 1, 1, 1, 1, false, false},
		{Add, 6, "add", 2, 1, 1, 1, false, false},
		{Sub, 7, "sub", 2, 1, 1, 1, false, false},
		{Mul, 8, "mul", 2, 1, 3, 2, false, false},
		{Div, 9, "div", 2, 1, 8, 4, false, false},
		{Mod, 10, "mod", 2, 1, 8, 4, false, false},
		{Less, 11, "less", 2, 1, 1, 1, false, false},
		{Same, 12, "same", 2, 1, 1, 1, false, false},
		{And, 13, "and", 2, 1, 1, 1, false, false},
		{Or, 14, "or", 2, 1, 1, 1, false, false},
		{Jump, 15, "jump", 0, 0, 1, 1, true, false},
		{Zero, 16, "zero", 1, 0, 1, 1, true, false},
		{Call, 17, "call", 0, 1, 10, 5, true, false},
		{Return, 18, "return", 1, 0, 2, 1, false, false},
		{Print, 19, "print", 1, 0, 5, 3, false, false},
		{Keep, 20, "keep", 1, 0, 5, 3, false, false},
		{Input, 21, "input", 0, 0, 4, 2, true, true},
		{Array, 22, "array", 0, 0, 20, 10, true, true},
		{Get, 23, "get", 1, 1, 3, 2, true, false},
		{Set, 24, "set", 2, 0, 3, 2, true, false},
		{Clock, 25, "clock", 0, 1, 2, 1, false, false},
	}
}

// notKnown are ops of which there is nothing; among them such as would be one,
// were they cut to fewer bits, or turned.
func notKnown() (l []int) {
	l = []int{0, 26, 27, 99, 127, 128, 254, 255, 256, 1000, -1, -2, -128, -256, math.MaxInt, math.MaxInt - 1, math.MinInt, math.MinInt + 1}
	for op := 1; op <= 25; op++ {
		l = append(l, -op, 128+op, 256+op, op-256, 1<<16+op, 1<<31+op, 1<<32+op, op-1<<32, math.MinInt+op, math.MaxInt-op)
	}
	return l
}

// numbers are some of all sizes, and their opposites.
func numbers() []int64 {
	l := []int64{math.MinInt64, math.MinInt64 + 1, math.MaxInt64, math.MaxInt64 - 1, 0, 5, 7, 9, 42, 99, 128, 255, 256, 4095, 65536, 12345678901}
	for n := int64(1); n <= 1e18; n *= 10 {
		l = append(l, n, -n, n-1, 1-n)
	}
	return l
}

// line is what Text tells of an instruction, by the words written out.
func line(at int, in Ins) string {
	for _, x := range all() {
		if x.number != in.Op {
			continue
		}
		s := fmt.Sprintf("%d %s", at, x.name)
		if x.meansA {
			s += fmt.Sprintf(" %d", in.A)
		}
		if x.meansN {
			s += fmt.Sprintf(" %d", in.N)
		}
		return s + "\n"
	}
	return fmt.Sprintf("%d ?\n", at)
}

func lines(l []Ins) string {
	var b strings.Builder
	for at, in := range l {
		b.WriteString(line(at, in))
	}
	return b.String()
}

func texts(t *testing.T, l []Ins, want string) {
	t.Helper()
	if got := Text(l); got != want {
		t.Errorf("Text(%.300v): %.300q, want %.300q", fmt.Sprint(l), got, want)
	}
}
