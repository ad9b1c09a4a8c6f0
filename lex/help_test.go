package lex_test

import (
	"math/rand"
	"regexp"
	"slices"
	"strconv"
	"strings"
	"testing"

	"finial/api"
	"finial/lex"
	"finial/sample"
)

var texts = sample.Texts

func name(text string, at int) lex.Token { return lex.Token{Kind: 1, Text: text, At: at} }

func upper(text string, at int) lex.Token { return lex.Token{Kind: 2, Text: text, At: at} }

func number(n int, at int) lex.Token {
	return lex.Token{Kind: 3, Text: strconv.Itoa(n), N: n, At: at}
}

func mark(text string, at int) lex.Token { return lex.Token{Kind: 4, Text: text, At: at} }

func end(at int) lex.Token { return lex.Token{Kind: 5, Text: ".", At: at} }

// open returns the token with a ( that follows immediately.
func open(x lex.Token) lex.Token {
	x.Open = true
	return x
}

var (
	separator = regexp.MustCompile(`^([ \t\n]|%[^\n]*)`)
	quote     = regexp.MustCompile(`^'(''|[ -&(-~])*`)
	digits    = regexp.MustCompile(`^[0-9]+`)
	point     = regexp.MustCompile(`^\.([ \t\n%]|$)`)
	unquoted  = regexp.MustCompile(`^([a-z][a-zA-Z0-9_]*|[-+*/\\^<>=~:.?@#&$]+|!|;|\[\])`)
	capital   = regexp.MustCompile(`^[A-Z_][a-zA-Z0-9_]*`)
	single    = regexp.MustCompile(`^[][()|,]`)
)

// byWords returns what the words of the chapter say of a text that is not too large.
func byWords(s string) ([]lex.Token, int, api.Errno) {
	var l []lex.Token
	for at := 0; at < len(s); {
		rest := s[at:]
		if skip := separator.FindString(rest); skip != "" {
			at += len(skip)
			continue
		}
		x, n := tokenByWords(rest)
		if n == 0 {
			return nil, at, api.ErrForm
		}
		x.At = at
		l = append(l, x)
		at += n
	}
	return l, 0, api.OK
}

// tokenByWords returns the token that s begins with, and how many bytes it takes; 0 if there is none.
func tokenByWords(s string) (lex.Token, int) {
	if q := quote.FindString(s); q != "" {
		if !strings.HasPrefix(s[len(q):], "'") {
			return lex.Token{}, 0
		}
		return nameByWords(lex.Name, strings.ReplaceAll(q[1:], "''", "'"), s, len(q)+1)
	}
	if d := digits.FindString(s); d != "" {
		most := "9223372036854775807"
		if d[0] == '0' && d != "0" || len(d) > len(most) || len(d) == len(most) && d > most {
			return lex.Token{}, 0
		}
		n, _ := strconv.ParseInt(d, 10, 64)
		return lex.Token{Kind: lex.Number, Text: d, N: int(n)}, len(d)
	}
	if point.MatchString(s) {
		return lex.Token{Kind: lex.End, Text: "."}, 1
	}
	if x := unquoted.FindString(s); x != "" {
		return nameByWords(lex.Name, x, s, len(x))
	}
	if x := capital.FindString(s); x != "" {
		return nameByWords(lex.Upper, x, s, len(x))
	}
	if x := single.FindString(s); x != "" {
		return lex.Token{Kind: lex.Mark, Text: x}, 1
	}
	return lex.Token{}, 0
}

func nameByWords(kind int, text, s string, n int) (lex.Token, int) {
	if len(text) < 1 || len(text) > 20 {
		return lex.Token{}, 0
	}
	return lex.Token{Kind: kind, Text: text, Open: n < len(s) && s[n] == '('}, n
}

// checkTokens asks for the tokens of s.
func checkTokens(t *testing.T, s string, want ...lex.Token) {
	t.Helper()
	l, at, e := lex.Tokens(s)
	if e != api.OK || at != 0 {
		t.Errorf("Tokens of %s: error %d at %d", brief(s), e, at)
	} else if !slices.Equal(l, want) {
		t.Errorf("Tokens of %s: %v, not %v", brief(s), l, want)
	}
}

// checkFault asks for a text with no token at that byte.
func checkFault(t *testing.T, s string, want int) {
	t.Helper()
	l, at, e := lex.Tokens(s)
	if e != api.ErrForm || at != want || len(l) != 0 {
		t.Errorf("Tokens of %s: %d tokens, error %d at %d, not 2 at %d", brief(s), len(l), e, at, want)
	}
}

// checkLarge asks for a text that is too large.
func checkLarge(t *testing.T, s string) {
	t.Helper()
	l, at, e := lex.Tokens(s)
	if e != api.ErrLarge || at != 0 || len(l) != 0 {
		t.Errorf("Tokens of %s: %d tokens, error %d at %d, not 3 at 0", brief(s), len(l), e, at)
	}
}

// checkWords asks for what the words of the chapter say of s, and reports whether that is no error.
func checkWords(t *testing.T, s string) bool {
	t.Helper()
	want, place, e := byWords(s)
	if e != api.OK {
		checkFault(t, s, place)
		return false
	}
	checkTokens(t, s, want...)
	return true
}

// anyText returns a text of up to n pieces, almost always one that has tokens if right, seldom otherwise.
func anyText(r *rand.Rand, n int, right bool) string {
	pieces := []string{
		"a", "b1", "fooBar_9", "mod", "f(", "X", "_", "_1", "Xy_Z(", "0", "7", "10", "9223372036854775807", "(", ")", "[", "]", "[]", "|", ",", ". ", ".\n", ".\t", ".%x\n", ".", "+", "-", ":-", "\\+", "=..", "//", "!", ";",
		"'a'", "'it''s'", "''''", "'% .'", "'A B'(", " ", "\t", "\n", " \n ", "% c\n", "%\n", "%'é\x00\xff\n",
	}
	wrong := []string{
		"'", "''", "'a\n'", "\"", "`", "{", "}", "\r", "é", "\x00", "\xff", "007", "00", "9223372036854775808", "'unclosed", "a23456789012345678901", "%", "'é'",
	}
	var b strings.Builder
	for range r.Intn(n + 1) {
		if !right && r.Intn(4) == 0 {
			b.WriteString(wrong[r.Intn(len(wrong))])
			continue
		}
		b.WriteString(pieces[r.Intn(len(pieces))])
		if r.Intn(2) == 0 {
			b.WriteString(" ")
		}
	}
	return b.String()
}

// anyBytes returns a text of up to n bytes, most of them those of which tokens consist.
func anyBytes(r *rand.Rand, n int) string {
	const often = "aZ_09.=-'' ()[]|,%\n\t!;"
	l := make([]byte, r.Intn(n+1))
	for i := range l {
		switch r.Intn(12) {
		case 0:
			l[i] = byte(32 + r.Intn(95))
		default:
			l[i] = often[r.Intn(len(often))]
		}
		if r.Intn(60) == 0 {
			l[i] = byte(r.Intn(256))
		}
	}
	return string(l)
}

// brief is the beginning of a text, for a message.
func brief(s string) string { return strconv.Quote(s[:min(len(s), 80)]) }
