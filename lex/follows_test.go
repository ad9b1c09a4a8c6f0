package lex_test

import (
	"math/rand"
	"slices"
	"strings"
	"testing"

	"finial/api"
	"finial/lex"
)

// shifted returns the tokens as they are behind n further bytes.
func shifted(l []lex.Token, n int) []lex.Token {
	l = slices.Clone(l)
	for i := range l {
		l[i].At += n
	}
	return l
}

// P8.2.

// checkTogether asks for two texts with a line feed between, the first one of which has tokens by itself.
func checkTogether(t *testing.T, a, b string) {
	t.Helper()
	l, _, e := lex.Tokens(a)
	if e != api.OK {
		t.Fatalf("%s has no tokens: %d", brief(a), e)
	}
	m, at, e := lex.Tokens(b)
	switch {
	case len(a)+1+len(b) > 8000:
		checkLarge(t, a+"\n"+b)
	case e == api.OK:
		checkTokens(t, a+"\n"+b, append(l, shifted(m, len(a)+1)...)...)
	case e == api.ErrForm:
		checkFault(t, a+"\n"+b, len(a)+1+at)
	}
}

func TestTwoTexts(t *testing.T) {
	l := []string{
		"", " ", "\n", "a", "f(", "X", "X(", "_", "0", "1", "12", "-", "=", ".", "..", "=.", "a.", "a. ", "(", ")", "[", "]", "[]", "|", ",", "!", ";", "'a'", "'it''s'", "''''", "a % c\n", "%\n", "a.%\n", "9223372036854775807",
		strings.Repeat("a", 20), strings.Repeat("=", 20), strings.Repeat("a ", 3999), strings.Repeat(" ", 7999), strings.Repeat(" ", 8000),
	}
	faults := []string{"{", "a {", "'", "''", "'a", "00", "a 9223372036854775808", strings.Repeat("b", 21), "\r", "é", "%\né"}
	for _, a := range l {
		for _, b := range l {
			checkTogether(t, a, b)
		}
		for _, b := range faults {
			checkTogether(t, a, b)
		}
		// A comment that is open at the end of the first one ends at the line feed, so that it hides nothing.
		if len(a) < 7000 {
			checkTokens(t, a+"\n% c '\nb", append(first(t, a), name("b", len(a)+7))...)
		}
	}
	// What is one token without the line feed is not one with it.
	checkTokens(t, "a\nb", name("a", 0), name("b", 2))
	checkTokens(t, "1\n2", number(1, 0), number(2, 2))
	checkTokens(t, "0\n0", number(0, 0), number(0, 2))
	checkTokens(t, "=\n.", name("=", 0), end(2))
	checkTokens(t, ".\n=", end(0), name("=", 2))
	checkTokens(t, ".\na", end(0), name("a", 2))
	checkTokens(t, "[\n]", mark("[", 0), mark("]", 2))
	checkTokens(t, "f\n(", name("f", 0), mark("(", 2))
	checkTokens(t, "'a'\n'b'", name("a", 0), name("b", 4))
	checkFault(t, "'a\nb'", 0)
}

// first returns the tokens of a text that has some.
func first(t *testing.T, s string) []lex.Token {
	l, _, e := lex.Tokens(s)
	if e != api.OK {
		t.Fatalf("%s has no tokens: %d", brief(s), e)
	}
	return l
}

func TestAnyTwoTexts(t *testing.T) {
	r := rand.New(rand.NewSource(105))
	count := 0
	for range 30000 {
		a, b := anyText(r, 8, true), anyText(r, 8, r.Intn(3) > 0)
		if r.Intn(4) == 0 {
			a, b = anyBytes(r, 8), anyBytes(r, 12)
		}
		if _, _, e := lex.Tokens(a); e == api.OK {
			checkTogether(t, a, b)
			count++
		}
	}
	if count < 15000 {
		t.Errorf("only %d pairs", count)
	}
}
