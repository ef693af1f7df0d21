package lexer

import (
	"math/big"
	"regexp"
	"slices"
	"strings"
	"testing"

	"matchguard/api"
)

var (
	lexeme  = longest(`^( +|[a-z0-9_]+|[(]|[)]|!|&&|[|][|]|->|==|!=|<|<=|>|>=|[+]|-|::)`)
	word    = regexp.MustCompile(`^[a-z0-9_]+$`)
	name    = regexp.MustCompile(`^[a-z][a-z0-9_]*$`)
	decimal = regexp.MustCompile(`^[0-9]+$`)
	hex     = regexp.MustCompile(`^0x[0-9a-f]+$`)
)

// longest returns an expression that finds the longest one of its alternatives.
func longest(s string) *regexp.Regexp {
	x := regexp.MustCompile(s)
	x.Longest()
	return x
}

// isLiteralWord is number.Literal by package big.
func isLiteralWord(s string) bool {
	n := new(big.Int)
	switch {
	case decimal.MatchString(s):
		n.SetString(s, 10)
	case hex.MatchString(s):
		n.SetString(s[len("0x"):], 16)
	default:
		return false
	}
	return n.BitLen() <= 128
}

// expected is Scan as the chapter says it, by regular expressions.
func expected(s string) ([]Token, int, api.Errno) {
	if len(s) > 400 {
		return nil, 0, api.ErrLimit
	}
	var l []Token
	for at := 0; at < len(s); {
		x := lexeme.FindString(s[at:])
		switch {
		case x == "":
			return nil, at, api.ErrParse
		case x[0] == ' ':
		case !word.MatchString(x):
			l = append(l, Token{3, x, at})
		case name.MatchString(x):
			l = append(l, Token{2, x, at})
		case isLiteralWord(x):
			l = append(l, Token{1, x, at})
		default:
			return nil, at, api.ErrParse
		}
		at += len(x)
	}
	return l, 0, api.OK
}

// laws tests the consequences (P6.2) for a text with the tokens l.
func laws(t *testing.T, s string, l []Token) {
	t.Helper()
	text := []byte(strings.Repeat(" ", len(s)))
	for _, x := range l {
		copy(text[x.At:], x.Text)
	}
	if string(text) != s {
		t.Fatalf("the tokens of %q are %v", s, l)
	}
	joined := Join(l)
	again, n, e := Scan(joined)
	if len(joined) > 400 {
		if again != nil || n != 0 || e != api.ErrLimit {
			t.Fatalf("Scan of a joined text of %d bytes = %v, %d, %d", len(joined), again, n, e)
		}
		return
	}
	same := func(a, b Token) bool { return a.Kind == b.Kind && a.Text == b.Text }
	if !slices.EqualFunc(again, l, same) || n != 0 || e != api.OK {
		t.Fatalf("Scan(%q) = %v, %d, %d; the tokens joined are %v", joined, again, n, e, l)
	}
}

// scanned tests Scan of s against expected, and P6.2.
func scanned(t *testing.T, s string) {
	t.Helper()
	want, at, code := expected(s)
	got, n, e := Scan(s)
	if !slices.Equal(got, want) || n != at || e != code {
		t.Fatalf("Scan(%q) = %v, %d, %d; want %v, %d, %d", s, got, n, e, want, at, code)
	}
	if code == api.OK {
		laws(t, s, got)
	}
}
