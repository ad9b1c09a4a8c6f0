package match_test

import (
	"math/rand"
	"strconv"
	"testing"

	"finial/api"
	"finial/match"
	"finial/sample"
	"finial/term"
)

var (
	variable = sample.Variable
	number   = sample.Number
	fun      = sample.Fun
	times    = sample.Times
	deep     = sample.Deep
	sized    = sample.Sized

	variables = sample.Variables
	twice     = sample.Twice

	rightOnes  = sample.RightOnes
	smallTerms = sample.SmallOnes
	wrongOnes  = sample.WrongOnes
	odd        = sample.Odd

	anyPattern = sample.AnyPattern
	nearly     = sample.Nearly
	numbered   = sample.Numbered
	inside     = sample.Inside

	bind  = sample.Bind
	binds = sample.Binds

	apart      = sample.Apart
	apartBinds = sample.ApartBinds
	alike      = sample.Alike
	alikeBinds = sample.AlikeBinds
	brief      = sample.Brief

	filledByWords = sample.Filled
)

// briefBinds is the beginning of the binds' texts, for a message.
func briefBinds(l []api.Bind) string {
	s := strconv.Itoa(len(l)) + " binds:"
	for _, b := range l[:min(len(l), 10)] {
		s += " " + strconv.Itoa(b.V) + " " + brief(b.T)
	}
	return s
}

// The words of the chapter, without the package that is tested and without regard to room.

// matchedByWords returns the values of the pattern's variables, and whether there are any. If there are, each is what
// stands in t where the variable first stands in the pattern: so there are values exactly if these make t of the pattern.
func matchedByWords(pattern, t api.Term) ([]api.Bind, bool) {
	firsts := standing(pattern, t, nil)
	if !alike(filledByWords(pattern, firsts), t) {
		return nil, false
	}
	return firsts, true
}

// standing adds to l, for each variable that is not yet in it, what stands in t where the variable stands in the pattern.
func standing(pattern, t api.Term, l []api.Bind) []api.Bind {
	if pattern.Kind == api.Var {
		for _, b := range l {
			if b.V == pattern.N {
				return l
			}
		}
		return append(l, bind(pattern.N, t))
	}
	for i, a := range pattern.Args[:min(len(pattern.Args), len(t.Args))] {
		l = standing(a, t.Args[i], l)
	}
	return l
}

// anyValues binds most of the variables 0 to vars - 1, in any order; the values have variables of the same numbers.
func anyValues(r *rand.Rand, vars int) []api.Bind {
	var l []api.Bind
	for _, v := range r.Perm(vars) {
		if r.Intn(8) > 0 {
			l = append(l, bind(v, sample.AnyTerm(r.Intn, vars, 1+r.Intn(3))))
		}
	}
	return l
}

// checkMatch asks for the values of the pattern's variables, and compares them with the words; it reports whether t is an instance.
func checkMatch(t *testing.T, pattern, x api.Term) bool {
	t.Helper()
	want, is := matchedByWords(pattern, x)
	checkWanted(t, pattern, x, want, is)
	return is
}

// checkWanted asks for the values of the pattern's variables, which are want, or no values if x is not an instance.
func checkWanted(t *testing.T, pattern, x api.Term, want []api.Bind, is bool) {
	t.Helper()
	got, matched, e := match.Match(pattern, x)
	if e != api.OK || matched != is || !alikeBinds(got, want) {
		t.Errorf("Match of %s and %s: %s, %v, %d; not %s, %v", brief(pattern), brief(x), briefBinds(got), matched, e, briefBinds(want), is)
	}
	if match.Instance(x, pattern) != is {
		t.Errorf("Instance of %s and %s: %v", brief(x), brief(pattern), !is)
	}
}

// checkRefused asks for an instance of terms one of which is not valid.
func checkRefused(t *testing.T, pattern, x api.Term) {
	t.Helper()
	if l, is, e := match.Match(pattern, x); e != api.ErrArg || is || len(l) != 0 {
		t.Errorf("Match of %s and %s: %d binds, %v, %d", brief(pattern), brief(x), len(l), is, e)
	}
	if match.Instance(x, pattern) {
		t.Errorf("an instance: %s of %s", brief(x), brief(pattern))
	}
}

// checkFill fills the pattern; the result is want, or nothing if that is too large.
func checkFill(t *testing.T, pattern api.Term, l []api.Bind, want api.Term) {
	t.Helper()
	wanted := api.OK
	if !term.Right(want) {
		want, wanted = api.Term{}, api.ErrLarge
	}
	if got, e := match.Fill(pattern, l); e != wanted || !alike(got, want) {
		t.Errorf("Fill of %s: %s, %d; not %s, %d", brief(pattern), brief(got), e, brief(want), wanted)
	}
}

// checkFillFails fills a pattern, which cannot be done.
func checkFillFails(t *testing.T, pattern api.Term, l []api.Bind, want api.Errno) {
	t.Helper()
	if got, e := match.Fill(pattern, l); e != want || !alike(got, api.Term{}) {
		t.Errorf("Fill of %s with %d binds: %s, %d; not %d", brief(pattern), len(l), brief(got), e, want)
	}
}
