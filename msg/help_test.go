package msg_test

import (
	"math/rand"
	"testing"

	"finial/api"
	"finial/match"
	"finial/msg"
	"finial/sample"
	"finial/term"
)

var (
	variable = sample.Variable
	number   = sample.Number
	fun      = sample.Fun
	times    = sample.Times
	deep     = sample.Deep
	sized    = sample.Sized

	variables = sample.Variables
	twice     = sample.Twice

	rightOnes  = sample.RightOnes
	smallTerms = sample.SmallOnes
	wrongOnes  = sample.WrongOnes
	odd        = sample.Odd

	anyTerm    = sample.AnyTerm
	anyPattern = sample.AnyPattern
	nearly     = sample.Nearly
	numbered   = sample.Numbered
	filled     = sample.Filled
	binds      = sample.Binds

	apart    = sample.Apart
	alike    = sample.Alike
	allAlike = sample.AllAlike
	brief    = sample.Brief
	briefAll = sample.BriefAll
	text     = sample.Text
)

// leastByWords returns the least generalisation of terms, without the package that is tested: what stands at a place
// where not all of the terms have the same Num or Fun becomes a variable, which is the same one wherever the same
// terms stand.
func leastByWords(l ...api.Term) api.Term {
	seen := map[string]int{}
	var at func(l []api.Term) api.Term
	at = func(l []api.Term) api.Term {
		if !alikeAbove(l) {
			standing := text(fun("", l...))
			if _, old := seen[standing]; !old {
				seen[standing] = len(seen)
			}
			return variable(seen[standing])
		}
		var args []api.Term
		for i := range l[0].Args {
			var parts []api.Term
			for _, x := range l {
				parts = append(parts, x.Args[i])
			}
			args = append(args, at(parts))
		}
		return api.Term{Kind: l[0].Kind, Name: l[0].Name, N: l[0].N, Args: args}
	}
	return at(l)
}

// alikeAbove reports whether the terms are all the same Num, or Funs of one Name and of as many Args.
func alikeAbove(l []api.Term) bool {
	first := l[0]
	for _, x := range l {
		if x.Kind == api.Var || x.Kind != first.Kind || x.Name != first.Name || x.N != first.N || len(x.Args) != len(first.Args) {
			return false
		}
	}
	return true
}

// renumbered returns t with its variables renumbered.
func renumbered(t api.Term) api.Term {
	l, _, _ := term.Number([]api.Term{t})
	return l[0]
}

// shuffled returns the terms in another order.
func shuffled(r *rand.Rand, l []api.Term) []api.Term {
	m := append([]api.Term{}, l...)
	r.Shuffle(len(m), func(i, j int) { m[i], m[j] = m[j], m[i] })
	return m
}

// anyAlike returns n valid terms that have much in common: made of one pattern, or of another one like it.
func anyAlike(r *rand.Rand, n int) []api.Term {
	pattern := anyPattern(r.Intn, 4)
	var l []api.Term
	for range n {
		var values []api.Term
		for range 4 {
			values = append(values, anyTerm(r.Intn, 2, 1+r.Intn(2)))
		}
		x := filled(pattern, binds(values...))
		if r.Intn(3) == 0 {
			x = nearly(r.Intn, x)
		}
		l = append(l, x)
	}
	return l
}

// repeats reports whether a variable of t is at several places.
func repeats(t api.Term) bool {
	n := 0
	var count func(x api.Term)
	count = func(x api.Term) {
		if x.Kind == api.Var {
			n++
		}
		for _, a := range x.Args {
			count(a)
		}
	}
	count(t)
	return n > len(term.Vars([]api.Term{t}))
}

// generalisations returns for each of the terms which of them it is an instance of, by their places.
func generalisations(l []api.Term) []map[int]api.Term {
	var above []map[int]api.Term
	for _, x := range l {
		m := map[int]api.Term{}
		for i, g := range l {
			if match.Instance(x, g) {
				m[i] = g
			}
		}
		above = append(above, m)
	}
	return above
}

// common returns what all the maps have in common.
func common(l ...map[int]api.Term) []api.Term {
	var in []api.Term
	for i, x := range l[0] {
		n := 0
		for _, m := range l {
			if _, is := m[i]; is {
				n++
			}
		}
		if n == len(l) {
			in = append(in, x)
		}
	}
	return in
}

// checkLeast checks by the definition that got is the least generalisation of the terms, which others generalise too.
func checkLeast(t *testing.T, l []api.Term, got api.Term, others []api.Term) {
	t.Helper()
	for _, x := range l {
		if !match.Instance(x, got) {
			t.Errorf("%s: %s is no generalisation", briefAll(l), brief(got))
		}
	}
	if !alike(got, renumbered(got)) {
		t.Errorf("%s: %s is not numbered in order", briefAll(l), brief(got))
	}
	if len(others) == 0 {
		t.Errorf("%s: no generalisation is known", briefAll(l))
	}
	for _, g := range others {
		if !match.Instance(got, g) {
			t.Errorf("%s: %s is no instance of %s", briefAll(l), brief(got), brief(g))
		}
	}
}

// checkOf asks for the least generalisation of two terms by all calls, in both orders.
func checkOf(t *testing.T, a, b, want api.Term) {
	t.Helper()
	for _, l := range [][]api.Term{{a, b}, {b, a}} {
		if got, e := msg.Of(l[0], l[1]); e != api.OK || !alike(got, want) {
			t.Errorf("Of %s and %s: %s, %d; not %s", brief(l[0]), brief(l[1]), brief(got), e, brief(want))
		}
		if n, e := msg.Apart(l[0], l[1]); e != api.OK || n != len(term.Vars([]api.Term{want})) {
			t.Errorf("Apart of %s and %s: %d, %d; not the number of variables of %s", brief(l[0]), brief(l[1]), n, e, brief(want))
		}
		checkAll(t, l, want)
	}
}

// checkAll asks for the least generalisation of all terms.
func checkAll(t *testing.T, l []api.Term, want api.Term) {
	t.Helper()
	if got, e := msg.All(l); e != api.OK || !alike(got, want) {
		t.Errorf("All of %s: %s, %d; not %s", briefAll(l), brief(got), e, brief(want))
	}
}

// checkRefused asks for what two terms have in common, one of which is not valid.
func checkRefused(t *testing.T, a, b api.Term) {
	t.Helper()
	for _, l := range [][]api.Term{{a, b}, {b, a}} {
		if got, e := msg.Of(l[0], l[1]); e != api.ErrArg || !alike(got, api.Term{}) {
			t.Errorf("Of %s and %s: %s, %d", brief(l[0]), brief(l[1]), brief(got), e)
		}
		if n, e := msg.Apart(l[0], l[1]); e != api.ErrArg || n != 0 {
			t.Errorf("Apart of %s and %s: %d, %d", brief(l[0]), brief(l[1]), n, e)
		}
		checkAllFails(t, l, api.ErrArg)
	}
}

// checkAllFails asks for the least generalisation of terms that have none.
func checkAllFails(t *testing.T, l []api.Term, want api.Errno) {
	t.Helper()
	if got, e := msg.All(l); e != want || !alike(got, api.Term{}) {
		t.Errorf("All of %s: %s, %d; not %d", briefAll(l), brief(got), e, want)
	}
}
