package unify_test

import (
	"math/rand"
	"testing"

	"finial/api"
	"finial/sample"
	"finial/subst"
	"finial/term"
	"finial/unify"
)

var (
	variable = sample.Variable
	number   = sample.Number
	fun      = sample.Fun
	times    = sample.Times
	deep     = sample.Deep
	sized    = sample.Sized

	variables = sample.Variables
	twice     = sample.Twice

	rightOnes = sample.RightOnes
	wrongOnes = sample.WrongOnes
	odd       = sample.Odd

	bind    = sample.Bind
	binds   = sample.Binds
	becomes = sample.Becomes

	apart      = sample.Apart
	alike      = sample.Alike
	alikeBinds = sample.AlikeBinds
	allAlike   = sample.AllAlike
	brief      = sample.Brief
)

// pair is two terms that are to be unified.
type pair = [2]api.Term

// packed is one term with all terms of l in it, whose shape depends on their number alone.
func packed(l []api.Term) api.Term {
	if len(l) <= api.MaxArity {
		return fun("p", l...)
	}
	var parts []api.Term
	size := (len(l) + api.MaxArity - 1) / api.MaxArity
	for len(l) > 0 {
		n := min(size, len(l))
		parts = append(parts, packed(l[:n]))
		l = l[n:]
	}
	return fun("q", parts...)
}

// packedPairs are two terms that are unified exactly if all pairs are.
func packedPairs(l []pair) (api.Term, api.Term) {
	var a, b []api.Term
	for _, p := range l {
		a = append(a, p[0])
		b = append(b, p[1])
	}
	return packed(a), packed(b)
}

func reversed(l []pair) []pair {
	var m []pair
	for i := range l {
		p := l[len(l)-1-i]
		m = append(m, pair{p[1], p[0]})
	}
	return m
}

func shuffled(r *rand.Rand, l []pair) []pair {
	m := append([]pair{}, l...)
	r.Shuffle(len(m), func(i, j int) { m[i], m[j] = m[j], m[i] })
	for i, p := range m {
		if r.Intn(2) == 0 {
			m[i] = pair{p[1], p[0]}
		}
	}
	return m
}

// anyPair returns two terms of the variables 0 to vars - 1, which can often be unified.
func anyPair(r *rand.Rand, vars int) pair {
	if r.Intn(4) == 0 {
		return pair{sample.AnyTerm(r.Intn, vars, 3), sample.AnyTerm(r.Intn, vars, 3)}
	}
	t := sample.AnyTerm(r.Intn, vars, 4)
	return pair{withHoles(r, t, vars), withHoles(r, t, vars)}
}

// withHoles returns t with variables in the place of some terms inside it.
func withHoles(r *rand.Rand, t api.Term, vars int) api.Term {
	if r.Intn(6) == 0 {
		return variable(r.Intn(vars))
	}
	var args []api.Term
	for _, a := range t.Args {
		args = append(args, withHoles(r, a, vars))
	}
	t.Args = args
	return t
}

func anyPairs(r *rand.Rand, n, vars int) []pair {
	var l []pair
	for range n {
		l = append(l, anyPair(r, vars))
	}
	return l
}

// unifiedByWords returns a flat most general substitution that unifies all pairs, and whether there is one. It is
// made by replacing one variable everywhere, again and again, without regard to room.
func unifiedByWords(l ...pair) ([]api.Bind, bool) {
	var made []api.Bind
	for work := append([]pair{}, l...); len(work) > 0; {
		a, b := becomes(made, work[0][0]), becomes(made, work[0][1])
		work = work[1:]
		if b.Kind == api.Var {
			a, b = b, a
		}
		switch {
		case alike(a, b):
		case a.Kind == api.Var:
			if inside(a, b) {
				return nil, false
			}
			for i := range made {
				made[i].T = becomes([]api.Bind{bind(a.N, b)}, made[i].T)
			}
			made = append(made, bind(a.N, b))
		case a.Kind != b.Kind || a.Name != b.Name || a.N != b.N || len(a.Args) != len(b.Args):
			return nil, false
		default:
			for i := range a.Args {
				work = append(work, pair{a.Args[i], b.Args[i]})
			}
		}
	}
	return made, true
}

// inside reports whether the variable v is inside t.
func inside(v, t api.Term) bool {
	if alike(v, t) {
		return true
	}
	for _, a := range t.Args {
		if inside(v, a) {
			return true
		}
	}
	return false
}

// renumbered is what the binds make of each of the variables, renumbered together.
func renumbered(l []api.Bind, vars []api.Term) []api.Term {
	var values []api.Term
	for _, v := range vars {
		values = append(values, becomes(l, v))
	}
	return together(values)
}

func together(l []api.Term) []api.Term {
	m, _, e := term.Number(l)
	if e != api.OK {
		panic("a term that is not valid")
	}
	return m
}

// varsOf returns the variables of the terms, as terms.
func varsOf(l ...api.Term) []api.Term {
	var vars []api.Term
	for _, v := range term.Vars(l) {
		vars = append(vars, variable(v))
	}
	return vars
}

// checkMgu asks for the most general substitution of small terms, and compares it with the words; it reports whether there is one.
func checkMgu(t *testing.T, a, b api.Term) bool {
	t.Helper()
	want, is := unifiedByWords(pair{a, b})
	got, unified, e := unify.Mgu(a, b)
	if e != api.OK || unified != is || !is && len(got) > 0 {
		t.Fatalf("Mgu of %s and %s: %v, %v, %d; not %v", brief(a), brief(b), got, unified, e, is)
	}
	if !is {
		return false
	}
	checkRightMgu(t, a, b, got)
	if vars := varsOf(a, b); !allAlike(renumbered(got, vars), renumbered(want, vars)) {
		t.Fatalf("Mgu of %s and %s: %v, not %v", brief(a), brief(b), got, want)
	}
	if !alike(becomes(got, a), becomes(got, b)) {
		t.Fatalf("Mgu of %s and %s: %v: these become %s and %s", brief(a), brief(b), got, brief(becomes(got, a)), brief(becomes(got, b)))
	}
	return true
}

// checkRightMgu tells whether the binds are valid, and of variables of the two terms.
func checkRightMgu(t *testing.T, a, b api.Term, l []api.Bind) {
	t.Helper()
	if !subst.Right(l) {
		t.Fatalf("Mgu of %s and %s: not valid: %d binds", brief(a), brief(b), len(l))
	}
	of := map[int]bool{}
	for _, v := range term.Vars([]api.Term{a, b}) {
		of[v] = true
	}
	for _, x := range l {
		for _, v := range append(term.Vars([]api.Term{x.T}), x.V) {
			if !of[v] {
				t.Fatalf("Mgu of %s and %s: the variable %d", brief(a), brief(b), v)
			}
		}
	}
}

// mustUnify unifies two terms in a store, which can be done.
func mustUnify(t *testing.T, s *unify.Store, a, b api.Term) {
	t.Helper()
	if unified, e := s.Unify(a, b); !unified || e != api.OK {
		t.Fatalf("Unify of %s and %s: %v, %d", brief(a), brief(b), unified, e)
	}
}

// mustNotUnify unifies two terms in a store, which cannot be done and does not change it.
func mustNotUnify(t *testing.T, s *unify.Store, a, b api.Term) {
	t.Helper()
	vars := varsOf(a, b)
	mark, before := s.Mark(), values(s, vars)
	if unified, e := s.Unify(a, b); unified || e != api.OK {
		t.Fatalf("Unify of %s and %s: %v, %d", brief(a), brief(b), unified, e)
	}
	if s.Mark() != mark || !allAlike(values(s, vars), before) {
		t.Fatalf("Unify of %s and %s has changed the store: %d binds, not %d", brief(a), brief(b), s.Mark(), mark)
	}
}

// values are what the store makes of the terms; the zero term stands for what is too large.
func values(s *unify.Store, l []api.Term) []api.Term {
	var m []api.Term
	for _, x := range l {
		v, _ := s.Value(x)
		m = append(m, v)
	}
	return m
}

// checkValue asks what the store makes of x, which is want, or nothing if that is too large.
func checkValue(t *testing.T, s *unify.Store, x, want api.Term) {
	t.Helper()
	wanted := api.OK
	if !term.Right(want) {
		want, wanted = api.Term{}, api.ErrLarge
	}
	if got, e := s.Value(x); e != wanted || !alike(got, want) {
		t.Errorf("Value of %s: %s, %d; not %s, %d", brief(x), brief(got), e, brief(want), wanted)
	}
}

// stored returns a store in which all pairs are unified.
func stored(t *testing.T, l ...pair) *unify.Store {
	t.Helper()
	s := unify.New()
	for _, p := range l {
		mustUnify(t, s, p[0], p[1])
	}
	return s
}
