package term_test

import (
	"math"
	"slices"
	"testing"

	"finial/api"
	"finial/term"
)

// P0, for the calls of this package: the rules R1 to R5.

// R1: every call returns, and none panics.
func TestCallsReturn(t *testing.T) {
	l := odd()
	for _, x := range l {
		term.Right(x)
		term.Ground(x)
		if term.Size(x) < 1 {
			t.Errorf("Size of %s: %d", brief(x), term.Size(x))
		}
		if !term.Same(x, x) || !term.Same(x, apart(x)) {
			t.Errorf("not the same as itself: %s", brief(x))
		}
		for _, by := range []int{math.MinInt, -1, 0, 1, math.MaxInt} {
			term.Shift(x, by)
		}
		term.Vars([]api.Term{x, x})
		term.Number([]api.Term{x, x})
	}
	term.Vars(l)
	term.Vars(nil)
	term.Number(l)
	term.Number(nil)
}

// R1: parts that are shared count at each of their places.
func TestSharedParts(t *testing.T) {
	x := fun("a")
	for i := range 11 {
		if term.Size(x) != 1<<(i+1)-1 || !term.Right(x) {
			t.Errorf("Size: %d, Right: %v", term.Size(x), term.Right(x))
		}
		x = fun("f", x, x)
	}
	if term.Size(x) != 4095 || term.Right(x) {
		t.Errorf("Size: %d, Right: %v", term.Size(x), term.Right(x))
	}
}

// R3: a nil list and an empty one are the same.
func TestNilAndEmpty(t *testing.T) {
	for _, x := range []api.Term{variable(3), number(3), fun("a")} {
		y := x
		y.Args = []api.Term{}
		for _, c := range [][2]api.Term{{x, y}, {fun("f", x), fun("f", y)}} {
			a, b := c[0], c[1]
			if !term.Right(b) || term.Size(a) != term.Size(b) || !term.Same(a, b) || !term.Same(b, a) || term.Ground(a) != term.Ground(b) || !slices.Equal(term.Vars([]api.Term{a}), term.Vars([]api.Term{b})) {
				t.Errorf("%s: not the same with empty Args", brief(a))
			}
			g, e := term.Shift(a, 1)
			h, f := term.Shift(b, 1)
			if e != api.OK || f != api.OK || !term.Same(g, h) {
				t.Errorf("Shift: %s, %d, %s, %d", brief(g), e, brief(h), f)
			}
			k, n, e := term.Number([]api.Term{a, b})
			if e != api.OK || len(k) != 2 || n != len(term.Vars([]api.Term{a})) || !term.Same(k[0], k[1]) {
				t.Errorf("Number: %d, %d", n, e)
			}
		}
	}
	if len(term.Vars(nil)) != 0 || len(term.Vars([]api.Term{})) != 0 {
		t.Error("Vars of no terms")
	}
}

// R3: arguments are not changed, nor what lies behind a list in its memory.
func TestArgumentsStay(t *testing.T) {
	for _, x := range slices.Concat(rightOnes(), odd()) {
		l := append(make([]api.Term, 0, 5), x, variable(5), x)
		whole := l[:5]
		whole[3], whole[4] = fun("behind"), number(4)
		before := apart(fun("f", whole...))
		term.Right(x)
		term.Size(x)
		term.Same(x, l[1])
		term.Ground(x)
		term.Vars(l)
		term.Shift(x, 3)
		term.Number(l)
		if !allAlike(whole, before.Args) {
			t.Errorf("changed: %s", brief(before))
		}
	}
}

// R3: what one call has returned is not changed by later ones.
func TestResultsStay(t *testing.T) {
	l := []api.Term{fun("f", variable(4), fun("g", variable(2))), variable(2)}
	vars := term.Vars(l)
	shifted, _ := term.Shift(l[0], 3)
	renumbered, _, _ := term.Number(l)
	for _, x := range rightOnes() {
		term.Vars([]api.Term{x})
		term.Shift(x, 1)
		term.Number([]api.Term{x, x})
	}
	if !slices.Equal(vars, []int{4, 2}) || !alike(shifted, fun("f", variable(7), fun("g", variable(5)))) || !allAlike(renumbered, []api.Term{fun("f", variable(0), fun("g", variable(1))), variable(1)}) {
		t.Errorf("changed: %v, %s, %s", vars, brief(shifted), brief(fun("f", renumbered...)))
	}
}

// R4: results depend on the arguments alone, not on what was asked before, nor on the order of a map.
func TestSameResultsAgain(t *testing.T) {
	var l []api.Term
	for i := range 300 {
		l = append(l, fun("f", variable(i*7%301+1), variable(i)))
	}
	vars := term.Vars(l)
	renumbered, n, _ := term.Number(l)
	for range 50 {
		term.Number([]api.Term{variable(3), {}})
		term.Shift(l[0], -1)
		again, m, e := term.Number(l)
		if e != api.OK || n != m || !allAlike(again, renumbered) || !slices.Equal(term.Vars(l), vars) {
			t.Fatal("other results for the same terms")
		}
	}
}

// R5: variables are counted from 0, in the order in which they occur, not in that of their numbers.
func TestNumbersFromZero(t *testing.T) {
	l := []api.Term{variable(50), fun("f", variable(40), variable(60)), variable(0)}
	got, n, e := term.Number(l)
	if e != api.OK || n != 4 || !allAlike(got, []api.Term{variable(0), fun("f", variable(1), variable(2)), variable(3)}) {
		t.Errorf("Number: %s, %d, %d", brief(fun("f", got...)), n, e)
	}
}
