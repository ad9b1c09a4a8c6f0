package embed_test

import (
	"math/rand"
	"testing"

	"finial/api"
	"finial/embed"
	"finial/sample"
	"finial/term"
)

var (
	variable = sample.Variable
	number   = sample.Number
	fun      = sample.Fun
	times    = sample.Times
	twice    = sample.Twice
	deep     = sample.Deep
	sized    = sample.Sized
	spine    = sample.Spine
	inside   = sample.Inside

	rightOnes = sample.RightOnes
	smallOnes = sample.SmallOnes
	wrongOnes = sample.WrongOnes
	odd       = sample.Odd

	anyTerm    = sample.AnyTerm
	anyPattern = sample.AnyPattern
	nearly     = sample.Nearly

	apart    = sample.Apart
	alike    = sample.Alike
	allAlike = sample.AllAlike
	brief    = sample.Brief
	briefAll = sample.BriefAll
)

// embeddedByWords reports whether a is embedded in b, by the words of the chapter from the top on. What was found of
// two parts is kept by their places in the terms.
func embeddedByWords(a, b api.Term) bool {
	kept := map[[2]int]bool{}
	var in func(x, y api.Term, i, j int) bool
	in = func(x, y api.Term, i, j int) bool {
		is, known := kept[[2]int{i, j}]
		if known {
			return is
		}
		is = x.Kind == y.Kind && (x.Kind != api.Fun || x.Name == y.Name && len(x.Args) == len(y.Args))
		below := j + 1
		for k, arg := range y.Args {
			if is {
				is = in(x.Args[k], arg, i+1+sizes(x.Args[:k]), below)
			}
			below += term.Size(arg)
		}
		below = j + 1
		for _, arg := range y.Args {
			is = is || in(x, arg, i, below)
			below += term.Size(arg)
		}
		kept[[2]int{i, j}] = is
		return is
	}
	return in(a, b, 0, 0)
}

// sizes returns of how many terms all of l consist.
func sizes(l []api.Term) int {
	n := 0
	for _, x := range l {
		n += term.Size(x)
	}
	return n
}

// plain returns t with 0 in the place of the N of each Var and Num: no such N counts.
func plain(t api.Term) api.Term {
	var args []api.Term
	for _, x := range t.Args {
		args = append(args, plain(x))
	}
	return api.Term{Kind: t.Kind, Name: t.Name, Args: args}
}

// shrunk returns the texts of all that t becomes if terms inside it, or it itself, are replaced by one of their Args,
// again and again: just these are embedded in it. The N of Vars and Nums do not count.
func shrunk(t api.Term) map[string]int {
	texts := map[string]int{}
	var shrink func(x api.Term)
	shrink = func(x api.Term) {
		if _, old := texts[sample.Text(x)]; old {
			return
		}
		texts[sample.Text(x)] = term.Size(x)
		for _, y := range shorter(x) {
			shrink(y)
		}
	}
	shrink(plain(t))
	return texts
}

// shorter returns all that t becomes if one term inside it, or it itself, is replaced by one of its Args.
func shorter(t api.Term) []api.Term {
	l := append([]api.Term{}, t.Args...)
	for i, x := range t.Args {
		for _, y := range shorter(x) {
			whole := apart(t)
			whole.Args[i] = y
			l = append(l, whole)
		}
	}
	return l
}

// grown returns a term in which t is embedded: with other Vars and Nums, and some parts of it inside further terms.
func grown(r *rand.Rand, t api.Term) api.Term {
	switch t.Kind {
	case api.Var:
		t = variable(r.Intn(9))
	case api.Num:
		t = number(r.Intn(9) - 4)
	}
	var args []api.Term
	for _, x := range t.Args {
		args = append(args, grown(r, x))
	}
	t.Args = args
	for r.Intn(4) == 0 {
		l := []api.Term{anyTerm(r.Intn, 3, 2), anyTerm(r.Intn, 3, 1), anyTerm(r.Intn, 3, 2)}[:1+r.Intn(3)]
		l[r.Intn(len(l))] = t
		t = fun([]string{"f", "g", "h"}[r.Intn(3)], l...)
	}
	return t
}

// anyPair returns two valid terms, the first one often embedded in the second one, or nearly so.
func anyPair(r *rand.Rand) (a, b api.Term) {
	a = anyPattern(r.Intn, 3)
	switch r.Intn(4) {
	case 0:
		return a, grown(r, a)
	case 1:
		return a, grown(r, nearly(r.Intn, a))
	case 2:
		return nearly(r.Intn, a), grown(r, a)
	}
	return anyTerm(r.Intn, 3, 3), a
}

// checkIn asks both calls whether a is embedded in b.
func checkIn(t *testing.T, a, b api.Term, want bool) {
	t.Helper()
	if embed.In(a, b) != want {
		t.Errorf("In of %s and %s: %v", brief(a), brief(b), !want)
	}
	last := -1
	if want {
		last = 0
	}
	checkWhistle(t, []api.Term{a}, b, last)
}

// checkWhistle asks for the last one of the terms that is embedded in x.
func checkWhistle(t *testing.T, l []api.Term, x api.Term, want int) {
	t.Helper()
	if got := embed.Whistle(l, x); got != want {
		t.Errorf("Whistle of %s, %s: %d, not %d", briefAll(l), brief(x), got, want)
	}
}

// checkRefused asks for two terms one of which is not valid: neither is embedded in the other one.
func checkRefused(t *testing.T, a, b api.Term) {
	t.Helper()
	checkIn(t, a, b, false)
	checkIn(t, b, a, false)
}
