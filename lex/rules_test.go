package lex_test

import (
	"math/rand"
	"slices"
	"strings"
	"sync"
	"testing"

	"finial/api"
	"finial/lex"
)

// P0, for the call of this package: the rules R1 to R5.

// R1: every call returns, and none panics.
func TestCallsReturn(t *testing.T) {
	r := rand.New(rand.NewSource(106))
	for range 3000 {
		l := make([]byte, r.Intn(100))
		r.Read(l)
		checkWords(t, string(l))
	}
	for b := range 256 {
		c := string([]byte{byte(b)})
		for _, n := range []int{1, 2, 19, 20, 21, 22, 8000} {
			checkWords(t, strings.Repeat(c, n))
			checkWords(t, "a "+strings.Repeat(c, n-n/1000))
		}
		checkLarge(t, strings.Repeat(c, 8001))
		checkLarge(t, strings.Repeat(c, 1<<17))
		for _, s := range []string{"a", "X", "1", "0", "=", ".", "(", "[", "!", "'a", "'a'", "%", "% \n"} {
			checkWords(t, s+c)
			checkWords(t, c+s)
			checkWords(t, s+c+s)
		}
	}
	checkLarge(t, strings.Repeat("f(X) :- g, h. % c\n", 1<<22))
}

// R2: a text that is too large has this error, whatever else is wrong with it, and nothing else is told.
func TestLargeComesFirst(t *testing.T) {
	for _, s := range []string{"{", "'", "00", "9223372036854775808", strings.Repeat("a", 21), "\xff", "a. ", "f(X)", "%", "\n", " "} {
		long := strings.Repeat(s, 8000/len(s)+1)
		checkLarge(t, long)
		checkLarge(t, s+strings.Repeat(" ", 8000))
		checkLarge(t, strings.Repeat(" ", 8001-len(s))+s)
		checkWords(t, long[:8000])
		checkWords(t, strings.Repeat(" ", 8000-len(s))+s)
	}
}

// R2: with an error there are no tokens, also if some stand before the fault.
func TestNothingBesideErrors(t *testing.T) {
	for _, s := range []string{"a b c {", "f(X). 'a", "a. b. c. 00", strings.Repeat("a ", 3999) + "\"", strings.Repeat("a ", 4000) + "\""} {
		if l, _, e := lex.Tokens(s); e == api.OK || len(l) != 0 {
			t.Errorf("%s: %d tokens with the error %d", brief(s), len(l), e)
		}
	}
}

// R3: what one call has returned is not changed by later ones, and shares no memory with what they return.
func TestResultsStay(t *testing.T) {
	const s = "f(X1, 'it''s') :- g(12), !. % c"
	want := []lex.Token{open(name("f", 0)), mark("(", 1), upper("X1", 2), mark(",", 4), name("it's", 6), mark(")", 13), name(":-", 15), open(name("g", 18)), mark("(", 19), number(12, 20), mark(")", 22), mark(",", 23), name("!", 25), end(26)}
	l, _, _ := lex.Tokens(s)
	r := rand.New(rand.NewSource(107))
	for range 300 {
		m, _, _ := lex.Tokens(anyText(r, 20, r.Intn(2) > 0))
		clear(m)
		m, _, _ = lex.Tokens(s)
		clear(m[:cap(m)])
	}
	if !slices.Equal(l, want) {
		t.Errorf("changed: %v", l)
	}
	clear(l)
	checkTokens(t, s, want...)
}

// R4: results depend on the text alone, not on what was asked before, nor on what is asked at the same time.
func TestSameResultsAgain(t *testing.T) {
	l := []string{"a b. c", "'it''s'(X) % open", "a 'open", "%", "f(1)", "", "00", "[]", ".", strings.Repeat(" ", 9000)}
	for _, a := range l {
		for _, b := range l {
			want, at, e := lex.Tokens(b)
			lex.Tokens(a)
			again, place, f := lex.Tokens(b)
			if !slices.Equal(again, want) || place != at || f != e {
				t.Errorf("%s after %s: %v, %d, %d", brief(b), brief(a), again, place, f)
			}
		}
	}
	var all sync.WaitGroup
	for i := range 8 {
		all.Go(func() {
			r := rand.New(rand.NewSource(int64(i)))
			for range 500 {
				checkWords(t, anyText(r, 10, i%2 == 0))
			}
		})
	}
	all.Wait()
}

// R5: bytes are counted from 0, also those of characters of several bytes; names are compared byte by byte.
func TestPlacesFromZero(t *testing.T) {
	checkTokens(t, "a", name("a", 0))
	checkTokens(t, "%é漢\n a", name("a", 8))
	checkTokens(t, "%\xff\xfe\x80\na", name("a", 5))
	checkFault(t, "é", 0)
	checkFault(t, "%漢\n漢", 5)
	checkFault(t, "a\n漢", 2)
	checkFault(t, "a 漢", 2)
	checkTokens(t, "a A 'a' 'A'", name("a", 0), upper("A", 2), name("a", 4), name("A", 8))
}
