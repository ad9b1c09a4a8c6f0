package read_test

import (
	"math/rand"
	"slices"
	"strings"
	"sync"
	"testing"

	"finial/api"
	"finial/read"
	"finial/sample"
)

// P0, for the calls of this package: the rules R1 to R5.

// R1: every call returns, and none panics.
func TestCallsReturn(t *testing.T) {
	r := rand.New(rand.NewSource(207))
	for range 3000 {
		l := make([]byte, r.Intn(100))
		r.Read(l)
		checkWords(t, string(l))
	}
	for b := range 256 {
		c := string([]byte{byte(b)})
		for _, n := range []int{1, 2, 20, 21, 999, 1000, 8000} {
			checkWords(t, strings.Repeat(c, n))
			checkWords(t, strings.Repeat(c+" ", n/2))
		}
		for _, s := range []string{"a", "X", "1", "-", "\\+", "f(", "(", "[", "[a|", "a,", "'a", "a."} {
			checkWords(t, s+c)
			checkWords(t, c+s)
			checkWords(t, s+" "+c+" .")
		}
	}
	for _, s := range []string{"", "a", "a.", ")", "{", "(", "f(a). "} {
		checkLarge(t, s+strings.Repeat(" ", 1<<22), 0)
	}
	checkLarge(t, strings.Repeat("f(X) :- g, \\+ h. % c\n", 1<<20), 0)
}

// R1: texts of as many tokens as possible, nested or chained in every way.
func TestLongTexts(t *testing.T) {
	for _, unit := range []string{"(", "[", "f(", "a,", "a:-", "a-", "a;", "- ", "-", "\\+ ", "X,", "_,", "[a|", "(a,", "f(a,", ",", ")", "a ", "- - ", "1-", ". ", "[]", "'a'(", "a=", "(a;b),", "a->", "a*(", "a;(", "\\+ (", "- (", "f(a),"} {
		for _, end := range []string{"", "a.", ".", ")"} {
			for _, n := range []int{90, 110, 998, 1001, (8000 - len(end)) / len(unit)} {
				if n*len(unit)+len(end) <= 8000 {
					checkWords(t, strings.Repeat(unit, n)+end)
				}
			}
		}
	}
}

// R2: the error that is told is the first one, and nothing else is told beside it.
func TestNothingBesideErrors(t *testing.T) {
	for _, s := range []string{"a. b. c", "f(X, Y). {", "f(X), g(Y)", "f(X, g(Y)). " + strings.Repeat("(", 1000), "X. f(a,a,a,a,a,a,a,a,a).", strings.Repeat("X. ", 3000), "X. Y. a b."} {
		if l, _, e := read.Clauses(s); e == api.OK || len(l) != 0 {
			t.Errorf("%s: %d clauses with the error %d", brief(s), len(l), e)
		}
		if c, _, e := read.One(s); e == api.OK || !isZero(c) {
			t.Errorf("%s: %s with the error %d", brief(s), showClause(c), e)
		}
	}
	if c, at, e := read.One("X. Y."); e != api.ErrForm || at != 5 || !isZero(c) {
		t.Errorf("%s, %d, %d", showClause(c), at, e)
	}
}

// R3: what one call has returned is not changed by later ones; no two parts of it share memory.
func TestResultsStay(t *testing.T) {
	const s = "p([X|Y], 'it''s', f(_, X)) :- \\+ q(X) = -1, r(Y, [X], [X]). p(X) :- X."
	want := []string{":-(p(.(_0, _1), 'it''s', f(_2, _0)), ','(\\+(=(q(_0), -1)), r(_1, .(_0, []), .(_0, [])))) {X Y }", ":-(p(_0), _0) {X}"}
	l, _, _ := read.Clauses(s)
	r := rand.New(rand.NewSource(208))
	for range 300 {
		m, _, _ := read.Clauses(anyText(r, 20))
		overwrite(m)
		m, _, _ = read.Clauses(s)
		overwrite(m[:cap(m)])
	}
	if !slices.Equal(showAll(l), want) {
		t.Errorf("changed: %q", showAll(l))
	}
	overwrite(l[1:])
	if showClause(l[0]) != want[0] {
		t.Errorf("shares memory with the second clause: %s", showClause(l[0]))
	}
	// What one part has room for behind it is no other part.
	body := l[0].T.Args[1].Args[1]
	body.Args = append(body.Args[:2], sample.Fun("more"))
	body.Args = append(body.Args, sample.Fun("more"), sample.Fun("more"))
	sample.Overwrite(l[0].T.Args[1].Args[1].Args[1])
	if got := show(l[0].T.Args[0]); got != "p(.(_0, _1), 'it''s', f(_2, _0))" {
		t.Errorf("shares memory with another part: %s", got)
	}
	checkClauses(t, s, want...)
}

// overwrite writes over all that is in the clauses, where it lies in memory.
func overwrite(l []read.Clause) {
	for i := range l {
		sample.Overwrite(l[i].T)
		names := l[i].Names[:cap(l[i].Names)]
		for k := range names {
			names[k] = "overwritten"
		}
		l[i] = read.Clause{}
	}
}

// R4: results depend on the text alone, not on what was read before, nor on what is read at the same time.
func TestSameResultsAgain(t *testing.T) {
	l := []string{"a :- b.", "X = Y. Y = X .", "f(X", "- 1.", "a mod b.", "", ")", "{", "\\+ X.", strings.Repeat("(", 1000), strings.Repeat(" ", 9000)}
	for _, a := range l {
		for _, b := range l {
			want, at, e := read.Clauses(b)
			read.Clauses(a)
			read.One(a)
			again, place, f := read.Clauses(b)
			if !slices.Equal(showAll(again), showAll(want)) || place != at || f != e {
				t.Errorf("%s after %s: %q, %d, %d", brief(b), brief(a), showAll(again), place, f)
			}
		}
	}
	var all sync.WaitGroup
	for i := range 8 {
		all.Go(func() {
			r := rand.New(rand.NewSource(int64(i)))
			for range 500 {
				checkWords(t, anyText(r, 10))
			}
		})
	}
	all.Wait()
}

// R5: bytes and variables are counted from 0, also bytes of characters of several bytes in comments.
func TestPlacesFromZero(t *testing.T) {
	checkForm(t, ")", 0)
	checkForm(t, "%é漢\n )", 8)
	checkForm(t, "a. %\xff\xfe\n b c.", 10)
	checkForm(t, "a % é", 6)
	checkLarge(t, "%漢\nf(a,a,a,a,a,a,a,a,a).", 5)
	checkLarge(t, "%漢\n"+strings.Repeat("(", 1001), 1005)
	checkNotOne(t, "a. % é\nb.")
	checkOne(t, "f(B, A).", "f(_0, _1) {B A}")
	checkOne(t, "f(Aa, AA, aa).", "f(_0, _1, aa) {Aa AA}")
}
