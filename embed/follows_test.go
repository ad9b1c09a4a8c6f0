package embed_test

import (
	"math/rand"
	"slices"
	"testing"

	"finial/api"
	"finial/embed"
	"finial/term"
)

// someTerms returns valid terms of all kinds but the largest ones, and some of which many are embedded in others.
func someTerms(seed int64) []api.Term {
	r := rand.New(rand.NewSource(seed))
	l := smallOnes()
	for _, x := range rightOnes() {
		if term.Size(x) < 200 {
			l = append(l, x)
		}
	}
	for range 20 {
		x, y := anyPair(r)
		l = append(l, x, y, grown(r, y))
	}
	return l
}

// P7.2.

func TestItself(t *testing.T) {
	for _, x := range append(rightOnes(), someTerms(84)...) {
		checkIn(t, x, x, true)
		checkIn(t, x, apart(x), true)
		checkIn(t, x, plain(x), true)
		checkIn(t, plain(x), x, true)
	}
}

func TestPartsOfATerm(t *testing.T) {
	for _, x := range append(rightOnes(), someTerms(85)...) {
		parts := inside(x)
		for i := 0; i < len(parts); i += 1 + len(parts)/60 {
			checkIn(t, parts[i], x, true)
		}
	}
}

func TestTransitive(t *testing.T) {
	check := func(x, y, z api.Term) bool {
		if !embed.In(x, y) || !embed.In(y, z) {
			return false
		}
		checkIn(t, x, z, true)
		return true
	}
	l := someTerms(86)
	var in [][]int // in which terms each one is embedded
	for _, x := range l {
		var above []int
		for j, y := range l {
			if embed.In(x, y) {
				above = append(above, j)
			}
		}
		in = append(in, above)
	}
	found := 0
	for i, above := range in {
		for _, j := range above {
			for _, k := range in[j] {
				found++
				if !slices.Contains(above, k) {
					t.Fatalf("%s is embedded in %s, and this in %s", brief(l[i]), brief(l[j]), brief(l[k]))
				}
			}
		}
	}
	r := rand.New(rand.NewSource(87))
	for range 5000 {
		x, y := anyPair(r)
		if check(x, y, grown(r, y)) || check(x, grown(r, x), grown(r, y)) {
			found++
		}
		one := grown(r, x)
		if !check(x, one, grown(r, one)) {
			t.Errorf("%s is not embedded in what it grows to", brief(x))
		}
	}
	if found < 10000 {
		t.Errorf("only %d times", found)
	}
}

// P7.3.

func TestNoMoreTerms(t *testing.T) {
	as, more := 0, 0
	check := func(x, y api.Term) {
		if !embed.In(x, y) {
			return
		}
		switch n, m := term.Size(x), term.Size(y); {
		case n > m:
			t.Errorf("%s, of %d terms, is embedded in %s, of %d", brief(x), n, brief(y), m)
		case n == m:
			as++
			if !alike(plain(x), plain(y)) {
				t.Errorf("%s is embedded in %s, which has as many terms", brief(x), brief(y))
			}
		default:
			more++
		}
	}
	l := append(someTerms(88), sized(700, variable(1)), sized(701, variable(1)), sized(700, number(1)), fun("f", sized(700, variable(1))))
	for _, x := range l {
		for _, y := range l {
			check(x, y)
		}
	}
	r := rand.New(rand.NewSource(89))
	for range 10000 {
		x, y := anyPair(r)
		check(x, y)
		check(y, x)
	}
	if as < 1000 || more < 3000 {
		t.Errorf("too few of one kind: %d, %d", as, more)
	}
}
