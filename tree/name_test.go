package tree

import (
	"regexp"
	"strings"
	"testing"
)

const name32 = "Abcdefghijklmnopqrstuvwxyz_01234"

func keywords() []string {
	return strings.Fields("func array input print keep if else while return clock")
}

// C1: ordinary names, and what is none, written out.
func TestC1Names(t *testing.T) {
	for s, want := range map[string]bool{
		"x": true, "X": true, "a": true, "z": true, "A": true, "Z": true, "x9": true, "x_": true, "X9_": true, "a__b": true, "x0y": true, "z9Z0aA": true,
		"": false, "_": false, "_x": false, "0": false, "9": false, "9x": false, "0x": false, " ": false, " x": false, "x ": false, "x y": false,
		"x-y": false, "x.y": false, "x;": false, "x\n": false, "x#": false, "=": false, "==": false, "(": false,
		"\x00": false, "x\x00": false, "x\x00y": false, "\x80": false, "x\xff": false, "\u00e4": false, "x\u00e4": false, "\u0130": false, "x\u0663": false,
	} {
		if got := Name(s); got != want {
			t.Errorf("%q: %v", s, got)
		}
	}
}

// C1: a name has from 1 to 32 bytes.
func TestC1Lengths(t *testing.T) {
	for _, c := range []string{"a", "Z", "a_", "a9", name32} {
		for n := range 200 {
			s := strings.Repeat(c, n/len(c)+1)[:n]
			if got, want := Name(s), 1 <= n && n <= 32; got != want {
				t.Errorf("%d bytes, %q: %v", n, s, got)
			}
		}
	}
	if Name(strings.Repeat("x", 1<<16)) {
		t.Errorf("65536 bytes are a name")
	}
}

// C1: a keyword is no name; what it is with a byte more, a byte less or another
// byte is one, if no other thing is against it.
func TestC1Keywords(t *testing.T) {
	for _, k := range keywords() {
		if Name(k) {
			t.Errorf("%q is a name", k)
		}
		great := strings.ToUpper(k[:1]) + k[1:]
		for _, s := range []string{k + "s", k + "_", k + "0", "x" + k, k + k, k[1:], k[:len(k)-1], great, strings.ToUpper(k)} {
			if !Name(s) {
				t.Errorf("%q is no name", s)
			}
		}
		for _, s := range []string{k + " ", " " + k, k + "\x00", "_" + k, "1" + k, k + "(", k + "\n"} {
			if Name(s) {
				t.Errorf("%q is a name", s)
			}
		}
	}
	for _, s := range []string{"Const", "var", "not", "main", "put", "assign", "and", "or", "true", "secret", "for", "int"} {
		if !Name(s) {
			t.Errorf("%q is no name", s)
		}
	}
}

// C1: every byte at every place of names of all lengths.
func TestC1EachByte(t *testing.T) {
	begins, goesOn := regexp.MustCompile(`^[A-Za-z]$`), regexp.MustCompile(`^[A-Za-z0-9_]$`)
	for c := range 128 {
		for n := 1; n <= 32; n++ {
			for at := range n {
				b := []byte(name32[:n])
				b[at] = byte(c)
				want := goesOn.Match(b[at:at+1]) && (at > 0 || begins.Match(b[:1]))
				if got := Name(string(b)); got != want {
					t.Errorf("%q: %v", b, got)
				}
			}
		}
	}
	for c := 128; c < 256; c++ {
		for at := range 32 {
			b := []byte(name32)
			b[at] = byte(c)
			if Name(string(b)) {
				t.Errorf("%q is a name", b)
			}
		}
	}
}

// C1: all texts of one and two bytes.
func TestC1AllShortTexts(t *testing.T) {
	check := func(b ...byte) {
		s := string(b)
		if got, want := Name(s), word.MatchString(s) && s != "if"; got != want {
			t.Errorf("%q: %v", s, got)
		}
	}
	for a := range 256 {
		check(byte(a))
		for b := range 256 {
			check(byte(a), byte(b))
		}
	}
}
