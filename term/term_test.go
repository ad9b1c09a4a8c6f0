package term_test

import (
	"math"
	"slices"
	"strings"
	"testing"

	"finial/api"
	"finial/term"
)

// P1.1: Right.

func TestRightTerms(t *testing.T) {
	for i, x := range rightOnes() {
		if !term.Right(x) {
			t.Errorf("%d: not right: %s", i, brief(x))
		}
	}
}

func TestWrongTerms(t *testing.T) {
	for i, x := range wrongOnes() {
		if term.Right(x) {
			t.Errorf("%d: right: %s", i, brief(x))
		}
	}
}

func TestRightNameBytes(t *testing.T) {
	for b := range 256 {
		want := b >= 32 && b <= 126
		for _, name := range []string{string([]byte{byte(b)}), string([]byte{byte(b), 'a'}), string([]byte{'a', byte(b), 'a'}), strings.Repeat("a", api.MaxName-1) + string([]byte{byte(b)})} {
			if term.Right(fun(name)) != want {
				t.Errorf("Right of the name %q: %v", name, !want)
			}
		}
	}
}

func TestRightNameLength(t *testing.T) {
	for n := range 2 * api.MaxName {
		if want := n >= 1 && n <= api.MaxName; term.Right(fun(strings.Repeat("z", n), number(1))) != want {
			t.Errorf("Right of a name of %d bytes: %v", n, !want)
		}
	}
}

func TestRightArity(t *testing.T) {
	for n := range 2 * api.MaxArity {
		if want := n <= api.MaxArity; term.Right(fun("f", times(n, number(1))...)) != want || term.Right(fun("g", fun("f", times(n, variable(1))...))) != want {
			t.Errorf("Right of a Fun of %d Args: %v", n, !want)
		}
	}
}

func TestRightVarBounds(t *testing.T) {
	for _, n := range []int{math.MinInt, -api.MaxVar, -1, 0, 1, api.MaxVar - 2, api.MaxVar - 1, api.MaxVar, api.MaxVar + 1, math.MaxInt} {
		if want := n >= 0 && n <= 999999; term.Right(variable(n)) != want || term.Right(fun("f", fun("a"), variable(n))) != want {
			t.Errorf("Right of the variable %d: %v", n, !want)
		}
	}
}

func TestRightNodes(t *testing.T) {
	for _, leaf := range []api.Term{variable(0), number(9), fun("a")} {
		for n := 2990; n <= 3010; n++ {
			x := sized(n, leaf)
			if term.Size(x) != n {
				t.Fatalf("Size of a term of %d: %d", n, term.Size(x))
			}
			if want := n <= 3000; term.Right(x) != want {
				t.Errorf("Right of a term of %d terms: %v", n, !want)
			}
		}
	}
}

func TestRightDepth(t *testing.T) {
	for _, leaf := range []api.Term{variable(0), number(9), fun("a")} {
		for n := 95; n <= 105; n++ {
			x := deep(n-1, leaf)
			want := n <= 100
			if term.Right(x) != want {
				t.Errorf("Right of depth %d: %v", n, !want)
			}
			// The greatest depth counts, at whatever place it is.
			y := deep(n-2, leaf)
			for _, l := range [][]api.Term{{y, leaf, leaf}, {leaf, y, leaf}, {leaf, leaf, y}} {
				if term.Right(fun("g", l...)) != want {
					t.Errorf("Right of depth %d beside others: %v", n, !want)
				}
			}
		}
	}
}

// Many deep Args are no deeper than one of them.
func TestRightDepthOfMany(t *testing.T) {
	if !term.Right(fun("f", times(api.MaxArity, deep(api.MaxDeep-2, variable(0)))...)) {
		t.Error("Right of eight Args of depth 99")
	}
}

func TestRightNestedFaults(t *testing.T) {
	for _, bad := range []api.Term{{}, {Kind: 4}, variable(-1), variable(api.MaxVar), fun(""), {Kind: api.Num, Name: "a"}} {
		for at := range api.MaxArity {
			l := times(api.MaxArity, fun("a", variable(1)))
			l[at] = bad
			if term.Right(fun("f", l...)) || term.Right(deep(50, fun("f", l...))) {
				t.Errorf("Right with %s as the Arg %d", brief(bad), at)
			}
		}
	}
}

// P1.1: Size.

func TestSize(t *testing.T) {
	for _, c := range []struct {
		t api.Term
		n int
	}{
		{variable(3), 1}, {number(-5), 1}, {fun("a"), 1},
		{fun("f", variable(3), fun("g", variable(1), variable(3))), 5},
		{fun("f", fun("g", fun("h")), fun("g", fun("h"))), 5},
		{fun("f", times(8, number(1))...), 9},
		{deep(99, variable(1)), 100},
		{spine(10, 3, number(2)), 37},
	} {
		if n := term.Size(c.t); n != c.n {
			t.Errorf("Size of %s: %d, not %d", brief(c.t), n, c.n)
		}
	}
}

func TestSizeOfWrongTerms(t *testing.T) {
	for _, c := range []struct {
		t api.Term
		n int
	}{
		{api.Term{}, 1}, {api.Term{Kind: -7}, 1}, {fun(""), 1}, {variable(-1), 1},
		{fun("f", times(100, variable(1))...), 101},
		{api.Term{Kind: api.Var, Args: []api.Term{fun("a"), fun("f", fun("a"))}}, 4},
		{api.Term{Kind: api.Num, Args: times(3, number(1))}, 4},
		{api.Term{Args: times(2, api.Term{})}, 3},
		{sized(10*api.MaxNodes, fun("a")), 10 * api.MaxNodes},
		{deep(1<<15, fun("a")), 1<<15 + 1},
	} {
		if n := term.Size(c.t); n != c.n {
			t.Errorf("Size of %s: %d, not %d", brief(c.t), n, c.n)
		}
	}
}

// P1.1: Same.

func TestSameExactlyWithItself(t *testing.T) {
	l := slices.Concat(rightOnes(), wrongOnes()[:90])
	for i, a := range l {
		for j, b := range l {
			if term.Same(a, apart(b)) != alike(a, b) {
				t.Errorf("Same(%s, %s) (%d, %d): %v", brief(a), brief(b), i, j, !alike(a, b))
			}
		}
	}
}

func TestSameFieldByField(t *testing.T) {
	x := api.Term{Kind: 2, Name: "n", N: 3, Args: []api.Term{fun("a"), variable(1)}}
	others := []api.Term{
		{Kind: 3, Name: "n", N: 3, Args: x.Args},
		{Kind: 2, Name: "m", N: 3, Args: x.Args},
		{Kind: 2, Name: "", N: 3, Args: x.Args},
		{Kind: 2, Name: "N", N: 3, Args: x.Args},
		{Kind: 2, Name: "n", N: -3, Args: x.Args},
		{Kind: 2, Name: "n", N: 3},
		{Kind: 2, Name: "n", N: 3, Args: x.Args[:1]},
		{Kind: 2, Name: "n", N: 3, Args: x.Args[1:]},
		{Kind: 2, Name: "n", N: 3, Args: []api.Term{fun("a"), variable(1), variable(1)}},
		{Kind: 2, Name: "n", N: 3, Args: []api.Term{variable(1), fun("a")}},
		{Kind: 2, Name: "n", N: 3, Args: []api.Term{fun("b"), variable(1)}},
		{Kind: 2, Name: "n", N: 3, Args: []api.Term{fun("a"), variable(2)}},
		{Kind: 2, Name: "n", N: 3, Args: []api.Term{fun("a", fun("a")), variable(1)}},
		{Kind: 2, Name: "n", N: 3, Args: []api.Term{fun("a"), number(1)}},
	}
	if !term.Same(x, apart(x)) {
		t.Error("not the same as its copy")
	}
	for i, y := range others {
		for _, at := range []int{0, 1, 60} {
			if term.Same(deep(at, x), deep(at, y)) || term.Same(deep(at, y), deep(at, x)) {
				t.Errorf("%d, at depth %d: the same", i, at)
			}
		}
	}
}

// P1.1: Vars and Ground.

func TestVars(t *testing.T) {
	x := fun("f", variable(3), fun("g", variable(1), variable(3)))
	for i, c := range []struct {
		l    []api.Term
		want []int
	}{
		{nil, nil}, {[]api.Term{fun("a"), number(4)}, nil},
		{[]api.Term{x}, []int{3, 1}},
		{[]api.Term{x, variable(0)}, []int{3, 1, 0}},
		{[]api.Term{variable(0), x}, []int{0, 3, 1}},
		{[]api.Term{x, x, variable(1), variable(3)}, []int{3, 1}},
		{[]api.Term{fun("f", fun("f", fun("f", variable(9)), variable(2)), variable(7)), variable(2), variable(8)}, []int{9, 2, 7, 8}},
		{[]api.Term{number(5), variable(api.MaxVar - 1), fun("_4"), variable(0)}, []int{api.MaxVar - 1, 0}},
		{[]api.Term{deep(99, variable(5)), spine(100, 2, variable(4))}, []int{5, 4}},
		{times(5000, variable(1)), []int{1}},
	} {
		if got := term.Vars(c.l); !slices.Equal(got, c.want) {
			t.Errorf("%d: Vars: %v, not %v", i, got, c.want)
		}
	}
}

func TestVarsOfWrongTerms(t *testing.T) {
	l := []api.Term{
		variable(-1), variable(math.MaxInt), {}, {Kind: 4, N: 6}, {Args: []api.Term{variable(2), number(3)}},
		{Kind: api.Num, N: 3, Args: []api.Term{variable(-1), variable(4)}},
		{Kind: api.Var, N: 9, Name: "x"}, fun("", variable(math.MinInt)), deep(1<<15, variable(5)),
	}
	if got, want := term.Vars(l), []int{-1, math.MaxInt, 2, 4, 9, math.MinInt, 5}; !slices.Equal(got, want) {
		t.Errorf("Vars: %v, not %v", got, want)
	}
}

func TestVarsKeepTheirOrder(t *testing.T) {
	var l []api.Term
	var want []int
	for i := range 2000 {
		v := i * 7919 % 2003
		l = append(l, fun("f", variable(v), variable(v)))
		want = append(want, v)
	}
	for range 5 {
		if got := term.Vars(append(l, l...)); !slices.Equal(got, want) {
			t.Fatalf("Vars of many: %v", got)
		}
	}
}

func TestGround(t *testing.T) {
	for _, x := range []api.Term{fun("a"), number(3), fun("f", number(0), fun("_1")), deep(99, number(1)), sized(3000, fun("a")), {}, {Kind: 4, N: 1}, fun(""), deep(1<<15, fun("a")), {Kind: api.Num, Name: "a", Args: []api.Term{{}}}} {
		if !term.Ground(x) {
			t.Errorf("not ground: %s", brief(x))
		}
	}
	for _, x := range []api.Term{variable(0), variable(-1), fun("f", variable(0)), fun("f", fun("a"), fun("b"), fun("g", fun("a"), variable(2))), deep(99, variable(1)), sized(3000, variable(0)), {Args: []api.Term{variable(0)}}, {Kind: api.Num, Args: []api.Term{fun("a"), variable(0)}}, deep(1<<15, variable(1))} {
		if term.Ground(x) {
			t.Errorf("ground: %s", brief(x))
		}
	}
}

func TestGroundExactlyWithoutVars(t *testing.T) {
	for _, x := range append(rightOnes(), wrongOnes()...) {
		if term.Ground(x) != (len(term.Vars([]api.Term{x})) == 0) {
			t.Errorf("Ground: %v, Vars: %v: %s", term.Ground(x), term.Vars([]api.Term{x}), brief(x))
		}
	}
}

// P1.2: Shift.

func TestShift(t *testing.T) {
	x := fun("f", variable(3), number(3), fun("g", variable(1), variable(3)), fun("_3"))
	for _, c := range []struct {
		t    api.Term
		by   int
		want api.Term
	}{
		{x, 0, x},
		{x, 5, fun("f", variable(8), number(3), fun("g", variable(6), variable(8)), fun("_3"))},
		{x, api.MaxVar - 4, fun("f", variable(api.MaxVar-1), number(3), fun("g", variable(api.MaxVar-3), variable(api.MaxVar-1)), fun("_3"))},
		{variable(0), api.MaxVar - 1, variable(api.MaxVar - 1)},
		{variable(api.MaxVar - 1), 0, variable(api.MaxVar - 1)},
		{number(-2), 5, number(-2)}, {number(math.MaxInt), 5, number(math.MaxInt)},
		{fun("a"), 3, fun("a")}, {fun("a"), math.MaxInt, fun("a")}, {number(1), api.MaxVar, number(1)},
		{deep(99, variable(1)), 2, deep(99, variable(3))},
		{sized(3000, variable(1)), 2, sized(3000, variable(3))},
		{fun("f", times(8, variable(1))...), 2, fun("f", times(8, variable(3))...)},
	} {
		got, e := term.Shift(c.t, c.by)
		if e != api.OK || !alike(got, c.want) {
			t.Errorf("Shift of %s by %d: %s, %d", brief(c.t), c.by, brief(got), e)
		}
	}
}

func TestShiftTooFar(t *testing.T) {
	x := fun("f", variable(0), fun("g", variable(10)), variable(3))
	for _, c := range []struct {
		t  api.Term
		by int
	}{
		{x, -1}, {x, math.MinInt}, {fun("a"), -1}, {number(7), math.MinInt}, {variable(5), -5}, {variable(api.MaxVar - 1), -1},
		{x, api.MaxVar - 10}, {x, api.MaxVar}, {x, math.MaxInt}, {x, math.MaxInt - 5}, {x, math.MaxInt - 10},
		{variable(0), api.MaxVar}, {variable(0), math.MaxInt}, {variable(1), math.MaxInt}, {variable(api.MaxVar - 1), 1}, {variable(api.MaxVar - 1), math.MaxInt},
		{deep(99, variable(api.MaxVar-1)), 1}, {fun("f", append(times(7, variable(0)), variable(1))...), api.MaxVar - 1},
	} {
		got, e := term.Shift(c.t, c.by)
		if e != api.ErrLarge || !alike(got, api.Term{}) {
			t.Errorf("Shift of %s by %d: %s, %d", brief(c.t), c.by, brief(got), e)
		}
	}
}

// R2: what is not valid comes before what is too large.
func TestShiftOfWrongTerms(t *testing.T) {
	for _, x := range wrongOnes() {
		for _, by := range []int{0, 1, -1, math.MinInt, api.MaxVar, math.MaxInt} {
			if got, e := term.Shift(x, by); e != api.ErrArg || !alike(got, api.Term{}) {
				t.Errorf("Shift of %s by %d: %s, %d", brief(x), by, brief(got), e)
			}
		}
	}
}

// P1.2: Number.

func TestNumber(t *testing.T) {
	x := fun("f", variable(3), fun("g", variable(1), variable(3)))
	for i, c := range []struct {
		l, want []api.Term
		n       int
	}{
		{nil, nil, 0}, {[]api.Term{}, nil, 0},
		{[]api.Term{x}, []api.Term{fun("f", variable(0), fun("g", variable(1), variable(0)))}, 2},
		{[]api.Term{variable(7)}, []api.Term{variable(0)}, 1},
		{[]api.Term{number(7), fun("a"), fun("f", number(1))}, []api.Term{number(7), fun("a"), fun("f", number(1))}, 0},
		{[]api.Term{variable(1), x, variable(api.MaxVar - 1)}, []api.Term{variable(0), fun("f", variable(1), fun("g", variable(0), variable(1))), variable(2)}, 3},
		{[]api.Term{variable(1), variable(0), number(1), variable(1)}, []api.Term{variable(0), variable(1), number(1), variable(0)}, 2},
		{[]api.Term{x, x}, []api.Term{fun("f", variable(0), fun("g", variable(1), variable(0))), fun("f", variable(0), fun("g", variable(1), variable(0)))}, 2},
		{[]api.Term{deep(99, variable(4)), sized(3000, variable(4))}, []api.Term{deep(99, variable(0)), sized(3000, variable(0))}, 1},
		{times(5000, fun("f", variable(2), variable(1))), times(5000, fun("f", variable(0), variable(1))), 2},
	} {
		got, n, e := term.Number(c.l)
		if e != api.OK || n != c.n || !allAlike(got, c.want) {
			t.Errorf("%d: Number: %d terms, %d, %d", i, len(got), n, e)
		}
	}
}

func TestNumberFollowsVars(t *testing.T) {
	for i, x := range rightOnes() {
		for _, y := range rightOnes() {
			l := []api.Term{y, x, fun("f", x, y)}
			if !term.Right(l[2]) {
				l = l[:2]
			}
			vars := term.Vars(l)
			got, n, e := term.Number(l)
			if e != api.OK || n != len(vars) || len(got) != len(l) {
				t.Fatalf("%d: Number: %d terms, %d, %d", i, len(got), n, e)
			}
			for at := range l {
				if !alike(replaced(got[at], vars), l[at]) {
					t.Errorf("%d: Number: %s becomes %s", i, brief(l[at]), brief(got[at]))
				}
			}
		}
	}
}

// replaced returns t with the variable that vars has at its place for each variable.
func replaced(t api.Term, vars []int) api.Term {
	if t.Kind == api.Var {
		return variable(vars[t.N])
	}
	var l []api.Term
	for _, x := range t.Args {
		l = append(l, replaced(x, vars))
	}
	return api.Term{Kind: t.Kind, Name: t.Name, N: t.N, Args: l}
}

func TestNumberOfWrongTerms(t *testing.T) {
	for _, x := range wrongOnes() {
		for _, l := range [][]api.Term{{x}, {x, fun("a")}, {variable(3), fun("a"), x}, {variable(3), x, variable(2)}} {
			if got, n, e := term.Number(l); e != api.ErrArg || n != 0 || len(got) != 0 {
				t.Errorf("Number with %s: %d terms, %d, %d", brief(x), len(got), n, e)
			}
		}
	}
}

// Terms that are valid one by one may be too many for one term.
func TestNumberOfManyTerms(t *testing.T) {
	var l []api.Term
	for i := range 2 * api.MaxNodes {
		l = append(l, fun("f", variable(api.MaxVar-1-i), variable(api.MaxVar-1-i)))
	}
	got, n, e := term.Number(l)
	if e != api.OK || n != len(l) || len(got) != len(l) {
		t.Fatalf("Number: %d terms, %d, %d", len(got), n, e)
	}
	for i, x := range got {
		if !alike(x, fun("f", variable(i), variable(i))) {
			t.Fatalf("Number: the term %d is %s", i, brief(x))
		}
	}
}

// P1.3.

func TestNumberAgainChangesNothing(t *testing.T) {
	for _, x := range rightOnes() {
		for _, y := range rightOnes() {
			l, n, _ := term.Number([]api.Term{x, y, x})
			again, m, e := term.Number(l)
			if e != api.OK || n != m || !allAlike(l, again) {
				t.Errorf("Number of %s, %s: %d, then %d, %d", brief(x), brief(y), n, m, e)
			}
		}
	}
}

func TestShiftedTermsAreNumberedAlike(t *testing.T) {
	for _, x := range rightOnes() {
		want, n, _ := term.Number([]api.Term{x})
		for _, by := range []int{0, 1, 17, api.MaxVar - 13, api.MaxVar - 1} {
			y, e := term.Shift(x, by)
			if e != api.OK {
				continue
			}
			got, m, e := term.Number([]api.Term{y})
			if e != api.OK || n != m || !allAlike(got, want) {
				t.Errorf("Number of %s, shifted by %d: %d, %d, not %d", brief(x), by, m, e, n)
			}
		}
	}
}

func TestShiftTwice(t *testing.T) {
	steps := []int{0, 1, 12, api.MaxVar/2 - 1, api.MaxVar / 2, api.MaxVar - 13, api.MaxVar - 1, api.MaxVar}
	for _, x := range rightOnes() {
		for _, a := range steps {
			for _, b := range steps {
				y, first := term.Shift(x, a)
				want, sum := term.Shift(x, a+b)
				if first != api.OK {
					if sum != first {
						t.Errorf("Shift of %s by %d: %d; by %d more: %d", brief(x), a, first, b, sum)
					}
					continue
				}
				if got, e := term.Shift(y, b); e != sum || !alike(got, want) {
					t.Errorf("Shift of %s by %d and then by %d: %s, %d; by the sum: %s, %d", brief(x), a, b, brief(got), e, brief(want), sum)
				}
			}
		}
	}
}
