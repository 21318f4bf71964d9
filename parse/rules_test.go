package parse

import (
	"slices"
	"strings"

	"evenhand/tree"
)

// rules are the chapter's rules without what it limits, as data: each word is
// what it may stand for; $ is the end, that could be no other token. Which operation binds more strongly makes no
// difference to which tokens are a program, so that is left out.
type rules map[string][]string

func chapter() rules {
	return rules{
		"PROGRAM": {"FUNCS STMTS $"},
		"FUNCS":   {"", "FUNC FUNCS"},
		"FUNC":    {"func name ( NAMES ) BLOCK"},
		"NAMES":   {"", "name NAMED"},
		"NAMED":   {"", ", name NAMED"},
		"BLOCK":   {"{ STMTS }"},
		"STMTS":   {"", "STMT STMTS"},
		"STMT": {
			"name = EXPR ;", "name [ EXPR ] = EXPR ;", "array name number ;", "input name ;",
			"print EXPR ;", "keep EXPR ;", "return EXPR ;",
			"if EXPR BLOCK", "if EXPR BLOCK else BLOCK", "while EXPR BLOCK",
		},
		"EXPR":  {"ONE", "ONE TWO EXPR"},
		"TWO":   {"|", "&", "==", "<", "+", "-", "*", "/", "%"},
		"ONE":   {"- ONE", "! ONE", "number", "clock", "( EXPR )", "name", "name [ EXPR ]", "name ( EXPRS )"},
		"EXPRS": {"", "EXPR MORE"},
		"MORE":  {"", ", EXPR MORE"},
	}
}

// waiting is what may come yet: each of its keys is a row of words and tokens
// that would end a program, and begins with a token.
type waiting map[string]struct{}

func (g rules) begin() waiting {
	w := waiting{}
	g.open("PROGRAM", w)
	return w
}

// open puts what the first word of a row may stand for in its place, until that
// is a token.
func (g rules) open(row string, to waiting) {
	word, rest, _ := strings.Cut(row, " ")
	if g[word] == nil {
		to[row] = struct{}{}
		return
	}
	for _, form := range g[word] {
		g.open(strings.TrimSpace(form+" "+rest), to)
	}
}

// behind is what may come behind a token; nothing, if the token may not.
func (g rules) behind(w waiting, token string) waiting {
	to := waiting{}
	for row := range w {
		if word, rest, _ := strings.Cut(row, " "); word == kind(token) {
			g.open(rest, to)
		}
	}
	return to
}

// kind is what the rules call a token.
func kind(token string) string {
	switch {
	case tree.Name(token):
		return "name"
	case token[0] >= '0' && token[0] <= '9':
		return "number"
	}
	return token
}

// firstWrong is which token is the first with which there is no program, the
// last one being the end; -1 if there is none.
func (g rules) firstWrong(tokens []string) int {
	w := g.begin()
	for i, token := range append(slices.Clone(tokens), "$") {
		if w = g.behind(w, token); len(w) == 0 {
			return i
		}
	}
	return -1
}

// allTokens has one of each that the rules tell apart; the end is not among them.
func allTokens() []string {
	return strings.Fields("func array input print keep if else while return clock x 7 ( ) { } [ ] , ; = == + - * / % < ! & |")
}

// write lays tokens with a gap between each two, and tells their places; the
// last place is that of the end.
func write(tokens []string, gap string) (string, []int) {
	s, places := "", []int{}
	for _, x := range tokens {
		places = append(places, len(s))
		s += x + gap
	}
	return s, append(places, len(s))
}
