package lex

import (
	"bytes"
	"fmt"
	"math/rand"
	"regexp"
	"slices"
	"strings"
	"testing"

	"evenhand/api"
)

const word32 = "Abcdefghijklmnopqrstuvwxyz_01234"

// tell is what Lex answers of a text, as one line.
func tell(s string) string {
	l, n, err := Lex([]byte(s))
	return line(l, n, err)
}

func line(l []Token, n int, err api.Errno) string {
	out := ""
	for _, x := range l {
		out += fmt.Sprintf("%d%q@%d ", x.Kind, x.Text, x.At)
	}
	return out + fmt.Sprintf("at %d, %v", n, err)
}

func wrong(at int) string { return line(nil, at, api.ErrSyntax) }

// known reads a text by patterns, apart from the program's own way.
type known struct{ gap, word, number, mark *regexp.Regexp }

func newKnown() known {
	return known{
		gap:    regexp.MustCompile(`^(?s:[\t\n\r ]|#[^\n]*)`),
		word:   regexp.MustCompile(`^[A-Za-z][A-Za-z0-9_]*`),
		number: regexp.MustCompile(`^[0-9]+`),
		mark:   regexp.MustCompile(`^(==|[(){}\[\],;=+*/%<!&|-])`),
	}
}

func (k known) tell(s string) string {
	// Bytes from 128 on would be runes to the patterns: an answer of the
	// patterns is then a count of the bytes of a text in Latin-1.
	var l []Token
	for at := 0; at < len(s); {
		rest := latin(s[at:])
		if m := k.gap.FindString(rest); m != "" {
			at += len([]rune(m))
			continue
		}
		kind, m := Word, k.word.FindString(rest)
		if m == "" {
			kind, m = Number, k.number.FindString(rest)
		}
		if m == "" {
			kind, m = Mark, k.mark.FindString(rest)
		}
		if m == "" || kind == Word && len(m) > 32 {
			return wrong(at)
		}
		if kind == Number && regexp.MustCompile(`^[A-Za-z_]`).MatchString(rest[len(m):]) {
			return wrong(at + len(m))
		}
		l = append(l, Token{kind, m, at})
		at += len(m)
	}
	return line(append(l, Token{Kind: End, At: len(s)}), 0, api.OK)
}

func latin(s string) string {
	var l []rune
	for _, c := range []byte(s) {
		l = append(l, rune(c))
	}
	return string(l)
}

// B1: the kinds' numbers are those that the chapter writes.
func TestB1Kinds(t *testing.T) {
	if got := []int{Word, Number, Mark, End}; !slices.Equal(got, []int{1, 2, 3, 4}) {
		t.Errorf("Word, Number, Mark, End: %v", got)
	}
}

// B1: ordinary texts, written out.
func TestB1Tokens(t *testing.T) {
	for s, want := range map[string]string{
		"x==1;":         `1"x"@0 3"=="@1 2"1"@3 3";"@4 4""@5 `,
		"x = 1;":        `1"x"@0 3"="@2 2"1"@4 3";"@5 4""@6 `,
		"a_1 B2_ c__":   `1"a_1"@0 1"B2_"@4 1"c__"@8 4""@11 `,
		"func(if)":      `1"func"@0 3"("@4 1"if"@5 3")"@7 4""@8 `,
		"0 00 007 10":   `2"0"@0 2"00"@2 2"007"@5 2"10"@9 4""@11 `,
		"-1":            `3"-"@0 2"1"@1 4""@2 `,
		"1-2":           `2"1"@0 3"-"@1 2"2"@2 4""@3 `,
		"a-1":           `1"a"@0 3"-"@1 2"1"@2 4""@3 `,
		"A[0]":          `1"A"@0 3"["@1 2"0"@2 3"]"@3 4""@4 `,
		"f(a,b)":        `1"f"@0 3"("@1 1"a"@2 3","@3 1"b"@4 3")"@5 4""@6 `,
		"a\tb\nc\rd e":  `1"a"@0 1"b"@2 1"c"@4 1"d"@6 1"e"@8 4""@9 `,
		"\t\n\r  x":     `1"x"@5 4""@6 `,
		"z9Z0aA":        `1"z9Z0aA"@0 4""@6 `,
		"9223372036854": `2"9223372036854"@0 4""@13 `,
	} {
		if got := tell(s); got != want+"at 0, error 0" {
			t.Errorf("%q: %s", s, got)
		}
	}
}

// B1: each mark, alone and right beside another; no other pair than == is one.
func TestB1Marks(t *testing.T) {
	all := []string{"(", ")", "{", "}", "[", "]", ",", ";", "=", "+", "-", "*", "/", "%", "<", "!", "&", "|"}
	for _, a := range all {
		if got, want := tell(a), line([]Token{{Mark, a, 0}, {End, "", 1}}, 0, api.OK); got != want {
			t.Errorf("%q: %s", a, got)
		}
		for _, b := range all {
			if a+b == "==" {
				continue
			}
			if got, want := tell(a+b), line([]Token{{Mark, a, 0}, {Mark, b, 1}, {End, "", 2}}, 0, api.OK); got != want {
				t.Errorf("%q: %s", a+b, got)
			}
		}
	}
	for s, want := range map[string]string{
		"==":     `3"=="@0 4""@2 `,
		"===":    `3"=="@0 3"="@2 4""@3 `,
		"====":   `3"=="@0 3"=="@2 4""@4 `,
		"= =":    `3"="@0 3"="@2 4""@3 `,
		"=\n=":   `3"="@0 3"="@2 4""@3 `,
		"=#=\n=": `3"="@0 3"="@4 4""@5 `,
		"!==":    `3"!"@0 3"=="@1 4""@3 `,
		"<=":     `3"<"@0 3"="@1 4""@2 `,
		"a=-b":   `1"a"@0 3"="@1 3"-"@2 1"b"@3 4""@4 `,
		"&&||":   `3"&"@0 3"&"@1 3"|"@2 3"|"@3 4""@4 `,
	} {
		if got := tell(s); got != want+"at 0, error 0" {
			t.Errorf("%q: %s", s, got)
		}
	}
}

// B1: of what stands behind a # in its line nothing is told, whatever it is.
func TestB1Comments(t *testing.T) {
	for s, want := range map[string]string{
		"#":                          `4""@1 `,
		"#\n":                        `4""@2 `,
		"##":                         `4""@2 `,
		"#x":                         `4""@2 `,
		"x#":                         `1"x"@0 4""@2 `,
		"a#b\nc":                     `1"a"@0 1"c"@4 4""@5 `,
		"1#a":                        `2"1"@0 4""@3 `,
		"1#\na":                      `2"1"@0 1"a"@3 4""@4 `,
		"#a\rb\nc":                   `1"c"@5 4""@6 `,
		"#a\tb c":                    `4""@6 `,
		"# _ . \" \x00 \x80 \xff\n1": `2"1"@14 4""@15 `,
		"# 1a " + word32 + "x\n;":    `3";"@39 4""@40 `,
		"#a\n#b\nc#d\n#e":            `1"c"@6 4""@12 `,
		"# a # b\nc":                 `1"c"@8 4""@9 `,
	} {
		if got := tell(s); got != want+"at 0, error 0" {
			t.Errorf("%q: %s", s, got)
		}
	}
}

// B1: End stands behind all, once, has no text, and tells how many bytes there are.
func TestB1End(t *testing.T) {
	for s, at := range map[string]int{"": 0, " ": 1, "\n\n": 2, "\r\n\t ": 4, "#": 1, "# x": 3, "#\n": 2} {
		if got, want := tell(s), line([]Token{{End, "", at}}, 0, api.OK); got != want {
			t.Errorf("%q: %s", s, got)
		}
	}
	if got, want := line(Lex(nil)), line([]Token{{End, "", 0}}, 0, api.OK); got != want {
		t.Errorf("nil: %s", got)
	}
	for s, at := range map[string]int{"x": 1, "x ": 2, "x#y": 3, "1\n": 2, ";\r\n": 3} {
		l, n, err := Lex([]byte(s))
		if len(l) != 2 || l[1] != (Token{End, "", at}) || n != 0 || err != api.OK {
			t.Errorf("%q: %s", s, line(l, n, err))
		}
	}
}

// B1: what every single byte is, and between two words.
func TestB1EachByte(t *testing.T) {
	for c := range 256 {
		s, ch := string([]byte{byte(c)}), rune(c)
		alone, between := wrong(0), wrong(1)
		switch {
		case strings.ContainsRune("\t\n\r ", ch):
			alone, between = `4""@1 at 0, error 0`, `1"a"@0 1"b"@2 4""@3 at 0, error 0`
		case ch == '#':
			alone, between = `4""@1 at 0, error 0`, `1"a"@0 4""@3 at 0, error 0`
		case ch == '_':
			between = `1"a_b"@0 4""@3 at 0, error 0`
		case ch >= '0' && ch <= '9':
			alone, between = `2"`+s+`"@0 4""@1 at 0, error 0`, `1"a`+s+`b"@0 4""@3 at 0, error 0`
		case ch >= 'A' && ch <= 'Z' || ch >= 'a' && ch <= 'z':
			alone, between = `1"`+s+`"@0 4""@1 at 0, error 0`, `1"a`+s+`b"@0 4""@3 at 0, error 0`
		case c < 128 && strings.ContainsRune("(){}[],;=+-*/%<!&|", ch):
			alone, between = `3"`+s+`"@0 4""@1 at 0, error 0`, `1"a"@0 3"`+s+`"@1 1"b"@2 4""@3 at 0, error 0`
		}
		if got := tell(s); got != alone {
			t.Errorf("byte %d: %s, want %s", c, got, alone)
		}
		if got := tell("a" + s + "b"); got != between {
			t.Errorf("byte %d between: %s, want %s", c, got, between)
		}
	}
}

// B1: a wrong byte is told by its place, with no tokens beside it; the first of several.
func TestB1WrongBytes(t *testing.T) {
	for s, at := range map[string]int{
		"_": 0, "_a": 0, "a _b": 2, ";_": 1, "x = _y;": 4, "__": 0,
		"a.": 1, "\"": 0, "a\n\n\"": 3, "a>b": 1, "a^b": 1, "a:": 1, "x = $;": 4, "@": 0, "`": 0, "~": 0, "?": 0, "'": 0, "\\": 0,
		"\x00": 0, "a\x00": 1, "1\x00": 1, "\x01": 0, "\x08": 0, "\x0b": 0, " \x0c": 1, "\x0e": 0, "\x1f": 0, "\x7f": 0,
		"\x80": 0, "ab\x80": 2, "a \xff": 2, "\u00e4": 0, "a\u00e4": 1, "1\u0663": 1, "\u00a0": 0, "a\u2028b": 1, "\ufeffx": 0,
		". .": 0, "a . 1b": 2, "1b . ": 1, ". " + word32 + "x": 0, "#\n#\n.": 4, "a # .\n.": 6,
	} {
		if got := tell(s); got != wrong(at) {
			t.Errorf("%q: %s, want %d", s, got, at)
		}
	}
}

// B1: a letter or _ right behind a number is wrong, and nothing else is by standing there.
func TestB1BehindNumbers(t *testing.T) {
	for s, at := range map[string]int{
		"1a": 1, "1Z": 1, "0x1f": 1, "12_": 2, "1_000": 1, "x 12_": 4, "x=007a": 5, "1e3": 1, "0z": 1, "9A": 1,
		"1" + word32 + "x": 1, "1_.": 1, "a1 2b": 4,
	} {
		if got := tell(s); got != wrong(at) {
			t.Errorf("%q: %s, want %d", s, got, at)
		}
	}
	for s, want := range map[string]string{
		"1 a":   `2"1"@0 1"a"@2 4""@3 `,
		"1\na":  `2"1"@0 1"a"@2 4""@3 `,
		"1;a":   `2"1"@0 3";"@1 1"a"@2 4""@3 `,
		"1(":    `2"1"@0 3"("@1 4""@2 `,
		"1=2":   `2"1"@0 3"="@1 2"2"@2 4""@3 `,
		"1==a":  `2"1"@0 3"=="@1 1"a"@3 4""@4 `,
		"a1a2_": `1"a1a2_"@0 4""@5 `,
	} {
		if got := tell(s); got != want+"at 0, error 0" {
			t.Errorf("%q: %s", s, got)
		}
	}
	long := strings.Repeat("1", 100)
	if got, want := tell(long), line([]Token{{Number, long, 0}, {End, "", 100}}, 0, api.OK); got != want {
		t.Errorf("100 digits: %s", got)
	}
}

// B1: a word has at most 32 bytes; what is longer is wrong from its first byte on.
func TestB1LongWords(t *testing.T) {
	for _, w := range []string{word32, strings.Repeat("Z", 32), "a" + strings.Repeat("_", 31), "a" + strings.Repeat("9", 31)} {
		if got, want := tell(w), line([]Token{{Word, w, 0}, {End, "", 32}}, 0, api.OK); got != want {
			t.Errorf("%q: %s", w, got)
		}
		if got, want := tell(" "+w+" "+w), line([]Token{{Word, w, 1}, {Word, w, 34}, {End, "", 66}}, 0, api.OK); got != want {
			t.Errorf("%q twice: %s", w, got)
		}
		for _, c := range []string{"a", "Z", "0", "_", "aa"} {
			if got := tell(w + c); got != wrong(0) {
				t.Errorf("%q: %s", w+c, got)
			}
			if got := tell("x; " + w + c + ".1a"); got != wrong(3) {
				t.Errorf("%q behind others: %s", w+c, got)
			}
		}
		if got := tell(w + "."); got != wrong(32) {
			t.Errorf("%q and a wrong byte: %s", w, got)
		}
	}
}

// B1: 65536 bytes are told, of whatever they are; of one more nothing is, whatever they are.
func TestB1ManyBytes(t *testing.T) {
	for _, c := range []byte(" #;1a\x00_") {
		b := bytes.Repeat([]byte{c}, 65537)
		if l, n, err := Lex(b); len(l) != 0 || n != 0 || err != api.ErrArg {
			t.Errorf("65537 of %q: %d tokens, %d %v", c, len(l), n, err)
		}
		b = b[:65536]
		l, n, err := Lex(b)
		if c == 'a' || c == 0 || c == '_' {
			if len(l) != 0 || n != 0 || err != api.ErrSyntax {
				t.Errorf("65536 of %q: %d tokens, %d %v", c, len(l), n, err)
			}
			continue
		}
		count := map[byte]int{' ': 1, '#': 1, '1': 2, ';': 65537}[c]
		if len(l) != count || l[len(l)-1] != (Token{End, "", 65536}) || n != 0 || err != api.OK {
			t.Errorf("65536 of %q: %d tokens, %d %v", c, len(l), n, err)
		}
	}
	if got := tell(strings.Repeat(" ", 65535) + "."); got != wrong(65535) {
		t.Errorf("the last byte: %s", got)
	}
	if got := tell("." + strings.Repeat(" ", 65536)); got != line(nil, 0, api.ErrArg) {
		t.Errorf("too many, and a wrong one: %s", got)
	}
}

// B1: all texts of one and two bytes, and all of up to five of some bytes, against the patterns.
func TestB1AllShortTexts(t *testing.T) {
	k := newKnown()
	check := func(s string) {
		if got, want := tell(s), k.tell(s); got != want {
			t.Errorf("%q: %s, want %s", s, got, want)
		}
	}
	for a := range 256 {
		check(string([]byte{byte(a)}))
		for b := range 256 {
			check(string([]byte{byte(a), byte(b)}))
		}
	}
	var all func(s string, left int)
	all = func(s string, left int) {
		check(s)
		for _, c := range "a0_=# \n." {
			if left > 0 {
				all(s+string(c), left-1)
			}
		}
	}
	all("", 5)
}

// B1: longer texts, of pieces that come in all orders, against the patterns.
func TestB1ManyTexts(t *testing.T) {
	k, r := newKnown(), rand.New(rand.NewSource(2))
	pieces := []string{
		" ", "\n", "\t", "\r", "#", "# x\n", "=", "==", "-", "!", "(", ")", "[", "]", "{", "}", ",", ";", "+", "*", "/", "%", "<", "&", "|",
		"a", "B", "func", "x_1", word32, "0", "7", "12", "007", "_", " a ", " 1 ", "print ", "while ", "\x80", ".",
	}
	right := 0
	for range 20000 {
		s := ""
		for range r.Intn(12) {
			s += pieces[r.Intn(len(pieces))]
		}
		got, want := tell(s), k.tell(s)
		if got != want {
			t.Errorf("%q: %s, want %s", s, got, want)
		}
		if strings.HasSuffix(got, "at 0, error 0") {
			right++
		}
	}
	if right < 1000 || right > 19000 {
		t.Errorf("%d of 20000 texts are tokens: neither kind is held to account", right)
	}
}

// B1: tokens, with a space between each two, are the same tokens.
func TestB1WhatFollows(t *testing.T) {
	r := rand.New(rand.NewSource(3))
	pieces := []string{"a", "B_2", "10", "==", "=", "-", "!", "<", ";", "(", "]", " ", "\n", "#x\n", "if"}
	for range 5000 {
		s := ""
		for range r.Intn(15) {
			s += pieces[r.Intn(len(pieces))]
		}
		l, _, err := Lex([]byte(s))
		if err != api.OK {
			continue
		}
		var texts []string
		for _, x := range l[:len(l)-1] {
			texts = append(texts, x.Text)
		}
		again, n, err := Lex([]byte(strings.Join(texts, " ")))
		if len(again) != len(l) || n != 0 || err != api.OK {
			t.Fatalf("%q: %s", s, line(again, n, err))
		}
		for i := range l {
			if l[i].Kind != again[i].Kind || l[i].Text != again[i].Text {
				t.Errorf("%q: token %d is %v, then %v", s, i, l[i], again[i])
			}
		}
	}
}

// R1: the bytes stay as they were, and may be written over behind the call.
func TestB1BytesAreNotKept(t *testing.T) {
	const s = "func f(a){x==10;} # y\n"
	b := append(make([]byte, 0, 100), s...)
	l, n, err := Lex(b)
	want := line(l, n, err)
	if string(b) != s || bytes.IndexFunc(b[len(s):cap(b)], func(r rune) bool { return r != 0 }) >= 0 {
		t.Errorf("the bytes are %q", b[:cap(b)])
	}
	for i := range b {
		b[i] = '?'
	}
	if got := line(l, n, err); got != want {
		t.Errorf("%s, and then %s", want, got)
	}
	for _, s := range []string{"a _", "1a", word32 + "x"} {
		b := []byte(s)
		if Lex(b); string(b) != s {
			t.Errorf("%q became %q", s, b)
		}
	}
}
