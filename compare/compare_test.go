package compare_test

import (
	"cmp"
	"math"
	"slices"
	"testing"

	"finial/api"
	"finial/compare"
	"finial/term"
)

// P2.1: Compare.

func TestCompare(t *testing.T) {
	for _, l := range [][]api.Term{ladder(), deepLadder()} {
		for i, a := range l {
			for j, b := range l {
				got, e := compare.Compare(a, b)
				if want := cmp.Compare(i, j); e != api.OK || got != want {
					t.Errorf("Compare of %s and %s: %d, %d, not %d", brief(a), brief(b), got, e, want)
				}
			}
		}
	}
}

// The difference counts wherever it is inside, and what comes after the first one does not.
func TestCompareInside(t *testing.T) {
	l := ladder()
	for i := range len(l) - 1 {
		a, b := l[i], l[i+1]
		for at := range api.MaxArity {
			x, y := times(api.MaxArity, fun("m")), times(api.MaxArity, fun("m"))
			x[at], y[at] = a, b
			if at+1 < api.MaxArity {
				x[at+1], y[at+1] = fun("~", fun("~")), variable(0)
			}
			for _, depth := range []int{0, 1, 40} {
				c, d := deep(depth, fun("f", x...)), deep(depth, fun("f", y...))
				if !term.Right(c) || !term.Right(d) {
					continue
				}
				before, e := compare.Compare(c, d)
				after, f := compare.Compare(d, c)
				if e != api.OK || f != api.OK || before != -1 || after != 1 {
					t.Errorf("Compare of %s and %s as the Arg %d at depth %d: %d, %d; the other way: %d, %d", brief(a), brief(b), at, depth, before, e, after, f)
				}
			}
		}
	}
}

func TestCompareEqualTerms(t *testing.T) {
	for _, x := range slices.Concat(ladder(), deepLadder(), rightOnes()) {
		if got, e := compare.Compare(x, apart(x)); e != api.OK || got != 0 {
			t.Errorf("Compare of %s and its copy: %d, %d", brief(x), got, e)
		}
	}
}

func TestCompareWrongTerms(t *testing.T) {
	for _, x := range wrongOnes() {
		for _, pair := range [][2]api.Term{{x, x}, {x, variable(0)}, {variable(0), x}, {x, number(0)}, {number(0), x}, {x, fun("a")}, {fun("a"), x}, {fun("~", fun("a"), fun("a"), fun("a")), x}, {x, {}}, {{}, x}} {
			if got, e := compare.Compare(pair[0], pair[1]); e != api.ErrArg || got != 0 {
				t.Errorf("Compare of %s and %s: %d, %d", brief(pair[0]), brief(pair[1]), got, e)
			}
		}
	}
}

// P2.1: Sort.

func TestSortExample(t *testing.T) {
	want := []api.Term{variable(1), number(5), fun("a"), fun("b"), fun("f", fun("a"))}
	got, e := compare.Sort([]api.Term{want[4], want[3], want[1], want[2], want[0], want[2], want[4]})
	if e != api.OK || !allAlike(got, want) {
		t.Errorf("Sort: %s, %d", brief(fun("f", got...)), e)
	}
}

func TestSort(t *testing.T) {
	for _, want := range [][]api.Term{nil, {}, {variable(5)}, {fun("a"), fun("b")}, ladder(), deepLadder()} {
		backwards := append([]api.Term{}, want...)
		slices.Reverse(backwards)
		lists := [][]api.Term{want, backwards, slices.Concat(want, want), slices.Concat(backwards, want, backwards)}
		for seed := range 20 {
			lists = append(lists, shuffled(want, int64(seed)), shuffled(slices.Concat(want, want, want), int64(seed)))
		}
		for i, l := range lists {
			if got, e := compare.Sort(l); e != api.OK || !allAlike(got, want) {
				t.Errorf("%d: Sort of %d terms: %d terms, not %d, or another order; %d", i, len(l), len(got), len(want), e)
			}
		}
	}
}

// Variants and terms that print alike are different terms: all of them stay.
func TestSortKeepsDifferentTerms(t *testing.T) {
	want := []api.Term{
		variable(0), variable(1), number(0), number(1), fun("0"), fun("_0"),
		fun("f", variable(0)), fun("f", variable(1)), fun("f", number(0)), fun("f", fun("0")), fun("f", fun("_0")),
		fun("g", variable(0), variable(0)), fun("g", variable(0), variable(1)), fun("g", variable(1), variable(0)), fun("g", variable(1), variable(1)),
	}
	for seed := range 20 {
		if got, e := compare.Sort(shuffled(want, int64(seed))); e != api.OK || !allAlike(got, want) {
			t.Errorf("Sort: %d terms, %d", len(got), e)
		}
	}
}

func TestSortOfCopies(t *testing.T) {
	for _, x := range rightOnes() {
		if got, e := compare.Sort([]api.Term{x, apart(x), x, apart(x)}); e != api.OK || !allAlike(got, []api.Term{x}) {
			t.Errorf("Sort of copies of %s: %d terms, %d", brief(x), len(got), e)
		}
	}
}

// Terms that are valid one by one may be too many for one term.
func TestSortOfManyTerms(t *testing.T) {
	var l, want []api.Term
	n := 3 * api.MaxNodes
	for i := range n {
		l = append(l, fun("f", number(i*7919%n), variable(1)), fun("f", number(i), variable(1)))
		want = append(want, fun("f", number(i), variable(1)))
	}
	if got, e := compare.Sort(l); e != api.OK || !allAlike(got, want) {
		t.Errorf("Sort of %d terms: %d terms, %d", len(l), len(got), e)
	}
}

// Sort is what Compare says: each term of the list once, and each but the last precedes the next one.
func TestSortFollowsCompare(t *testing.T) {
	for seed := range 50 {
		l := anyTerms(10*seed, int64(seed))
		got, e := compare.Sort(l)
		if e != api.OK {
			t.Fatalf("Sort: %d", e)
		}
		for i := range got {
			if i > 0 {
				if c, e := compare.Compare(got[i-1], got[i]); e != api.OK || c != -1 {
					t.Errorf("%s stands ahead of %s: %d, %d", brief(got[i-1]), brief(got[i]), c, e)
				}
			}
			if !slices.ContainsFunc(l, func(x api.Term) bool { return alike(x, got[i]) }) {
				t.Errorf("%s is not of the list", brief(got[i]))
			}
		}
		for _, x := range l {
			if !slices.ContainsFunc(got, func(y api.Term) bool { return alike(x, y) }) {
				t.Errorf("%s is gone", brief(x))
			}
		}
	}
}

func TestSortWrongTerms(t *testing.T) {
	a, z := fun("a"), variable(0)
	for _, x := range wrongOnes() {
		for _, l := range [][]api.Term{{x}, {x, x}, {x, a}, {a, x}, {a, x, z}, {z, a, a, z, x}, {x, z, a, a}, {a, {}, x}} {
			if got, e := compare.Sort(l); e != api.ErrArg || len(got) != 0 {
				t.Errorf("Sort of %d terms with %s: %d terms, %d", len(l), brief(x), len(got), e)
			}
		}
	}
}

// P2.2: Variant.

func TestVariants(t *testing.T) {
	x, y, z, far := variable(0), variable(1), variable(2), variable(api.MaxVar-1)
	for _, c := range [][2]api.Term{
		{x, x}, {x, far}, {number(4), number(4)}, {fun("a"), fun("a")},
		{fun("f", x, y), fun("f", y, x)}, {fun("f", x, y), fun("f", far, z)}, {fun("f", x, y, z), fun("f", y, z, x)}, {fun("f", x, x), fun("f", z, z)},
		{fun("f", variable(3), fun("g", y, variable(3))), fun("f", x, fun("g", y, x))},
		{fun("f", x, number(0), fun("_0")), fun("f", y, number(0), fun("_0"))},
		{fun("f", x, y, y, x), fun("f", far, x, x, far)},
		{deep(api.MaxDeep-1, x), deep(api.MaxDeep-1, far)}, {sized(api.MaxNodes, x), sized(api.MaxNodes, z)}, {spine(api.MaxDeep, 5, y), spine(api.MaxDeep, 5, far)},
	} {
		if !compare.Variant(c[0], c[1]) || !compare.Variant(c[1], c[0]) {
			t.Errorf("not variants: %s and %s", brief(c[0]), brief(c[1]))
		}
	}
}

func TestNoVariants(t *testing.T) {
	x, y, z, a := variable(0), variable(1), variable(2), fun("a")
	for _, c := range [][2]api.Term{
		{x, number(0)}, {x, a}, {x, fun("_0")}, {number(0), number(1)}, {number(0), fun("0")}, {number(math.MinInt), number(math.MaxInt)}, {a, fun("b")}, {a, fun("aa")}, {a, fun("a", a)}, {fun("f", x), fun("g", x)},
		// An instance is no variant: two variables must not become one.
		{fun("f", x, y), fun("f", x, x)}, {fun("f", x, y), fun("f", y, y)}, {fun("f", x, y, x), fun("f", x, y, y)}, {fun("f", x, y, z), fun("f", x, y, x)}, {fun("f", x, y, y, x), fun("f", x, y, x, y)},
		{fun("f", x), fun("f", a)}, {fun("f", x), fun("f", number(0))}, {fun("f", x, x), fun("f", a, a)},
		{fun("f", x, number(0)), fun("f", y, number(1))}, {fun("f", x), fun("f", x, x)}, {fun("f", x), fun("f", x, y)},
		{fun("f", fun("g", x), y), fun("f", fun("g", x), x)}, {fun("f", x, fun("g", y)), fun("f", fun("g", x), y)},
		{deep(api.MaxDeep-1, x), deep(api.MaxDeep-2, x)}, {deep(api.MaxDeep-1, x), deep(api.MaxDeep-1, a)}, {sized(api.MaxNodes, x), sized(api.MaxNodes-1, x)},
	} {
		if compare.Variant(c[0], c[1]) || compare.Variant(c[1], c[0]) {
			t.Errorf("variants: %s and %s", brief(c[0]), brief(c[1]))
		}
	}
}

func TestWrongTermsAreNoVariants(t *testing.T) {
	for _, x := range wrongOnes() {
		for _, y := range []api.Term{x, apart(x), {}, variable(0), number(0), fun("a"), fun("f", variable(0))} {
			if compare.Variant(x, y) || compare.Variant(y, x) {
				t.Errorf("variants: %s and %s", brief(x), brief(y))
			}
		}
	}
}

// paired walks both terms at once: each variable of one must always meet the same one of the other.
func paired(a, b api.Term, there, back map[int]int) bool {
	if a.Kind == api.Var && b.Kind == api.Var {
		v, old := there[a.N]
		w, met := back[b.N]
		if !old && !met {
			there[a.N], back[b.N] = b.N, a.N
			return true
		}
		return old && met && v == b.N && w == a.N
	}
	if a.Kind != b.Kind || a.N != b.N || a.Name != b.Name || len(a.Args) != len(b.Args) {
		return false
	}
	for i := range a.Args {
		if !paired(a.Args[i], b.Args[i], there, back) {
			return false
		}
	}
	return true
}

func TestVariantsHavePairedVariables(t *testing.T) {
	l := slices.Concat(anyTerms(200, 1), threes(), rightOnes()[:24])
	found := 0
	for i, a := range l {
		for j, b := range l {
			want := paired(a, b, map[int]int{}, map[int]int{})
			if want && i != j {
				found++
			}
			if compare.Variant(a, b) != want {
				t.Errorf("Variant of %s and %s: %v", brief(a), brief(b), !want)
			}
		}
	}
	if found < 100 {
		t.Errorf("only %d variants to test with", found)
	}
}

// P2.3.

// somewhere returns terms of which some are equal, and some differ deep inside.
func somewhere() []api.Term {
	return slices.Concat(ladder(), deepLadder()[4:8], rightOnes()[:27], threes(), anyTerms(60, 2))
}

func TestOrderIsTotal(t *testing.T) {
	l := somewhere()
	for _, a := range l {
		for _, b := range l {
			before, e := compare.Compare(a, b)
			after, f := compare.Compare(b, a)
			if e != api.OK || f != api.OK || before != -after || before < -1 || before > 1 || (before == 0) != alike(a, b) {
				t.Errorf("Compare of %s and %s: %d, %d; the other way: %d, %d", brief(a), brief(b), before, e, after, f)
			}
		}
	}
}

func TestOrderIsTransitive(t *testing.T) {
	l := somewhere()
	order := make([][]int, len(l))
	for i, a := range l {
		for _, b := range l {
			c, _ := compare.Compare(a, b)
			order[i] = append(order[i], c)
		}
	}
	for i := range l {
		for j := range l {
			for k := range l {
				if order[i][j] <= 0 && order[j][k] <= 0 && order[i][k] != min(order[i][j], order[j][k]) {
					t.Fatalf("%s, %s, %s: %d and %d, but %d", brief(l[i]), brief(l[j]), brief(l[k]), order[i][j], order[j][k], order[i][k])
				}
			}
		}
	}
}

// P2.4.

func TestVariantsAreEqualRenumbered(t *testing.T) {
	l := slices.Concat(anyTerms(150, 3), threes(), rightOnes()[:27], wrongOnes()[:20])
	renumbered := make([][]api.Term, len(l))
	for i, x := range l {
		renumbered[i], _, _ = term.Number([]api.Term{x})
	}
	for i, a := range l {
		for j, b := range l {
			want := len(renumbered[i]) == 1 && len(renumbered[j]) == 1 && alike(renumbered[i][0], renumbered[j][0])
			if compare.Variant(a, b) != want {
				t.Errorf("Variant of %s and %s: %v", brief(a), brief(b), !want)
			}
		}
	}
}

func TestRenumberedAndShiftedTermsAreVariants(t *testing.T) {
	for _, x := range somewhere() {
		l, _, _ := term.Number([]api.Term{x})
		if !compare.Variant(x, l[0]) || !compare.Variant(l[0], x) {
			t.Errorf("not variants: %s and itself, renumbered", brief(x))
		}
		if y, e := term.Shift(x, 1000); e == api.OK && (!compare.Variant(x, y) || !compare.Variant(y, x)) {
			t.Errorf("not variants: %s and itself, shifted", brief(x))
		}
	}
}
