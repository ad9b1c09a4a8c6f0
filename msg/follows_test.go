package msg_test

import (
	"math/rand"
	"slices"
	"testing"

	"finial/api"
	"finial/match"
	"finial/msg"
	"finial/term"
)

// someTerms returns valid terms of all kinds, and some that have much in common.
func someTerms(seed int64) []api.Term {
	r := rand.New(rand.NewSource(seed))
	l := slices.Concat(rightOnes(), smallTerms())
	for range 20 {
		l = append(l, anyAlike(r, 3)...)
	}
	return l
}

// of is the least generalisation of two valid terms, and how many variables it has.
func of(t *testing.T, a, b api.Term) (api.Term, int) {
	t.Helper()
	g, e := msg.Of(a, b)
	n, f := msg.Apart(a, b)
	if e != api.OK || f != api.OK {
		t.Fatalf("Of %s and %s: %d, %d", brief(a), brief(b), e, f)
	}
	return g, n
}

// all is the least generalisation of valid terms.
func all(t *testing.T, l []api.Term) api.Term {
	t.Helper()
	g, e := msg.All(l)
	if e != api.OK {
		t.Fatalf("All of %s: %d", briefAll(l), e)
	}
	return g
}

// P6.3.

func TestBothOrders(t *testing.T) {
	for _, x := range someTerms(64) {
		for _, y := range someTerms(64) {
			g, n := of(t, x, y)
			h, m := of(t, y, x)
			if !alike(g, h) || n != m {
				t.Errorf("%s and %s: %s, %d; the other way %s, %d", brief(x), brief(y), brief(g), n, brief(h), m)
			}
		}
	}
}

func TestItself(t *testing.T) {
	for _, x := range someTerms(65) {
		want := renumbered(x)
		vars := len(term.Vars([]api.Term{x}))
		for _, y := range []api.Term{x, apart(x), want} {
			if g, n := of(t, x, y); !alike(g, want) || n != vars {
				t.Errorf("%s and itself: %s, %d; not %s, %d", brief(x), brief(g), n, brief(want), vars)
			}
		}
		for n := 1; n < 6; n++ {
			checkAll(t, times(n, x), want)
		}
	}
}

// All is the same for all orders, for terms that are there again, and for parts of the list that come first.
func TestAnyOrder(t *testing.T) {
	r := rand.New(rand.NewSource(66))
	for range 4000 {
		l := anyAlike(r, 2+r.Intn(5))
		want := all(t, l)
		checkAll(t, shuffled(r, l), want)
		checkAll(t, shuffled(r, append(slices.Clone(l), l...)), want)
		checkAll(t, append(slices.Clone(l), want), want)
		k := 1 + r.Intn(len(l)-1)
		checkOf(t, all(t, l[:k]), all(t, l[k:]), want)
		folded := l[0]
		for _, x := range l {
			folded, _ = of(t, folded, x)
		}
		if !alike(folded, want) {
			t.Errorf("%s: one after the other %s, not %s", briefAll(l), brief(folded), brief(want))
		}
	}
}

// Renumbering the variables of one of the terms changes nothing.
func TestOtherVariables(t *testing.T) {
	r := rand.New(rand.NewSource(67))
	for range 4000 {
		l := anyAlike(r, 3)
		g, n := of(t, l[0], l[1])
		want := all(t, l)
		for i, x := range l {
			m := slices.Clone(l)
			m[i], _ = term.Shift(x, r.Intn(api.MaxVar-10))
			if h, k := of(t, m[0], m[1]); !alike(g, h) || n != k {
				t.Errorf("%s and %s: %s, %d; not %s, %d", brief(m[0]), brief(m[1]), brief(h), k, brief(g), n)
			}
			checkAll(t, m, want)
		}
	}
}

// The least generalisation of a pattern and an instance of it is the pattern, renumbered; and of no others.
func TestInstances(t *testing.T) {
	count := map[bool]int{}
	for _, x := range someTerms(68) {
		for _, y := range someTerms(68) {
			g, _ := of(t, x, y)
			if is := match.Instance(y, x); is != alike(g, renumbered(x)) {
				t.Errorf("%s and %s: %s; an instance: %v", brief(x), brief(y), brief(g), is)
			} else {
				count[is]++
			}
			checkOf(t, g, x, g)
			checkOf(t, y, g, g)
		}
	}
	if count[true] < 1000 || count[false] < 1000 {
		t.Errorf("too few of one kind: %v", count)
	}
}

// P6.4.

func TestNoMoreTerms(t *testing.T) {
	l := someTerms(69)
	for i, x := range l {
		for j, y := range l {
			g, n := of(t, x, y)
			if size := term.Size(g); !term.Right(g) || size > term.Size(x) || size > term.Size(y) || n > size {
				t.Errorf("%s and %s: %d terms of %d and %d, %d variables", brief(x), brief(y), size, term.Size(x), term.Size(y), n)
			}
			if h := all(t, []api.Term{x, y, l[(i+j)%len(l)]}); !term.Right(h) || term.Size(h) > term.Size(g) {
				t.Errorf("%s, %s and another one: %d terms of %d", brief(x), brief(y), term.Size(h), term.Size(g))
			}
		}
	}
}
