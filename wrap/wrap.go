// Package wrap is layer 1: see shared/doc/01-wrap.md.
package wrap

import (
	"math"
	"strconv"

	"evenhand/api"
)

// The operations of A1. The language's own int64 goes round where the chapter
// asks for it, so no operation looks for an overflow.

// Add is the sum.
func Add(a, b int64) int64 { return a + b }

// Sub is the difference.
func Sub(a, b int64) int64 { return a - b }

// Mul is the product.
func Mul(a, b int64) int64 { return a * b }

// Neg is 0 less a.
func Neg(a int64) int64 { return -a }

// Not is 1 of 0, else 0.
func Not(a int64) int64 { return truth(a == 0) }

// Less is 1 if a is below b, else 0.
func Less(a, b int64) int64 { return truth(a < b) }

// Same is 1 if both are the same, else 0.
func Same(a, b int64) int64 { return truth(a == b) }

// And is bit by bit.
func And(a, b int64) int64 { return a & b }

// Or is bit by bit.
func Or(a, b int64) int64 { return a | b }

// Div is a by b, rounded to nought; false if b is 0.
func Div(a, b int64) (int64, bool) {
	if b == 0 {
		return 0, false
	}
	return a / b, true // the least number by -1 is itself, by the language's rules
}

// Mod is what Div leaves of a; false if b is 0.
func Mod(a, b int64) (int64, bool) {
	if b == 0 {
		return 0, false
	}
	return a % b, true
}

// Do is what the operation of api from Neg to Or tells; false where it tells
// nothing, and of any other op.
func Do(op int, a, b int64) (int64, bool) {
	switch op {
	case api.Neg:
		return Neg(a), true
	case api.Not:
		return Not(a), true
	case api.Add:
		return Add(a, b), true
	case api.Sub:
		return Sub(a, b), true
	case api.Mul:
		return Mul(a, b), true
	case api.Div:
		return Div(a, b)
	case api.Mod:
		return Mod(a, b)
	case api.Less:
		return Less(a, b), true
	case api.Same:
		return Same(a, b), true
	case api.And:
		return And(a, b), true
	case api.Or:
		return Or(a, b), true
	}
	return 0, false
}

// Text is the decimal digits of n, behind a minus if it is below 0 (A2).
func Text(n int64) string { return strconv.FormatInt(n, 10) }

// Parse is the number from 0 on whose Text s is; false if there is none (A2).
func Parse(s string) (int64, bool) {
	if s == "" || len(s) > 1 && s[0] == '0' {
		return 0, false
	}
	var n int64
	for _, r := range s {
		if r < '0' || r > '9' {
			return 0, false
		}
		d := int64(r - '0')
		// Asked ahead of the step: a number that went round could look right.
		if n > (math.MaxInt64-d)/10 {
			return 0, false
		}
		n = n*10 + d
	}
	return n, true
}

func truth(b bool) int64 {
	if b {
		return 1
	}
	return 0
}
