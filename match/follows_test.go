package match_test

import (
	"math/rand"
	"slices"
	"testing"

	"finial/api"
	"finial/compare"
	"finial/match"
	"finial/sample"
	"finial/term"
)

// P5.3.

// A pattern that is filled with the values of its variables is the term.
func TestFilledWithValues(t *testing.T) {
	r := rand.New(rand.NewSource(53))
	found := 0
	check := func(pattern, x api.Term) {
		l, is, e := match.Match(pattern, x)
		if e != api.OK {
			t.Fatalf("Match of %s and %s: %d", brief(pattern), brief(x), e)
		}
		if !is {
			return
		}
		found++
		if got, e := match.Fill(pattern, l); e != api.OK || !alike(got, x) {
			t.Errorf("%s, filled with %s: %s, %d, not %s", brief(pattern), briefBinds(l), brief(got), e, brief(x))
		}
	}
	for _, x := range append(rightOnes(), smallTerms()...) {
		for _, y := range append(rightOnes(), smallTerms()...) {
			check(x, y)
		}
	}
	for range 10000 {
		pattern := anyPattern(r.Intn, 4)
		check(pattern, filledByWords(pattern, anyValues(r, 4)))
		check(pattern, nearly(r.Intn, pattern))
	}
	if found < 12000 {
		t.Errorf("only %d instances", found)
	}
}

// What is filled is an instance of the pattern, whose values are what it was filled with.
func TestFilledIsInstance(t *testing.T) {
	r := rand.New(rand.NewSource(54))
	for range 10000 {
		pattern, l := anyPattern(r.Intn, 5), anyValues(r, 5)
		x, e := match.Fill(pattern, l)
		if e != api.OK || !match.Instance(x, pattern) {
			t.Fatalf("%s, filled with %s: %s, %d: no instance", brief(pattern), briefBinds(l), brief(x), e)
		}
		got, is, e := match.Match(pattern, x)
		if e != api.OK || !is || len(got) != len(term.Vars([]api.Term{pattern})) {
			t.Fatalf("Match of %s and %s: %s, %v, %d", brief(pattern), brief(x), briefBinds(got), is, e)
		}
		for i, v := range term.Vars([]api.Term{pattern}) {
			want := variable(v)
			if at := slices.IndexFunc(l, func(b api.Bind) bool { return b.V == v }); at >= 0 {
				want = l[at].T
			}
			if got[i].V != v || !alike(got[i].T, want) {
				t.Fatalf("%s, filled with %s: the values %s", brief(pattern), briefBinds(l), briefBinds(got))
			}
		}
	}
}

// P5.4.

// instances returns for each of the terms which others are instances of it.
func instances(l []api.Term) [][]bool {
	var m [][]bool
	for _, pattern := range l {
		var row []bool
		for _, x := range l {
			row = append(row, match.Instance(x, pattern))
		}
		m = append(m, row)
	}
	return m
}

func TestInstancesOfInstances(t *testing.T) {
	l := append(rightOnes(), smallTerms()...)
	of := instances(l)
	for i := range l {
		for j := range l {
			for k := range l {
				if of[i][j] && of[j][k] && !of[i][k] {
					t.Fatalf("%s is an instance of %s, and this of %s", brief(l[k]), brief(l[j]), brief(l[i]))
				}
			}
		}
	}
	r := rand.New(rand.NewSource(55))
	for range 10000 {
		one := anyPattern(r.Intn, 4)
		two, e := match.Fill(one, anyValues(r, 4))
		three, f := match.Fill(two, anyValues(r, 4))
		if e == api.OK && f == api.OK && !(match.Instance(two, one) && match.Instance(three, two) && match.Instance(three, one)) {
			t.Fatalf("%s, %s, %s: no instances", brief(one), brief(two), brief(three))
		}
	}
}

func TestInstancesOfEachOther(t *testing.T) {
	l := append(rightOnes(), smallTerms()...)
	of := instances(l)
	count := map[bool]int{}
	for i := range l {
		for j := range l {
			both := of[i][j] && of[j][i]
			if both != compare.Variant(l[i], l[j]) {
				t.Errorf("%s and %s: instances of each other: %v", brief(l[i]), brief(l[j]), both)
			}
			count[both]++
		}
	}
	r := rand.New(rand.NewSource(56))
	for range 20000 {
		x := sample.AnyTerm(r.Intn, 3, 3)
		var names []api.Bind
		for v := range 3 {
			names = append(names, bind(v, variable(r.Intn(4))))
		}
		y := filledByWords(x, names)
		both := match.Instance(x, y) && match.Instance(y, x)
		if both != compare.Variant(x, y) {
			t.Errorf("%s and %s: instances of each other: %v", brief(x), brief(y), both)
		}
		count[both]++
	}
	if count[true] < 5000 || count[false] < 5000 {
		t.Errorf("too few of one kind: %v", count)
	}
}
