package match_test

import (
	"math"
	"math/rand"
	"slices"
	"testing"

	"finial/api"
	"finial/term"
)

// P5.2: Fill.

func TestFill(t *testing.T) {
	a, b, x, y, z, far := fun("a"), fun("b"), variable(0), variable(1), variable(2), variable(api.MaxVar-1)
	for _, c := range []struct {
		pattern api.Term
		l       []api.Bind
		want    api.Term
	}{
		{a, nil, a}, {x, nil, x}, {fun("f", x, number(3)), []api.Bind{}, fun("f", x, number(3))},
		{x, binds(a), a}, {x, binds(number(-4)), number(-4)}, {x, binds(fun("f", a, b)), fun("f", a, b)}, {y, binds(a), y}, {far, []api.Bind{bind(api.MaxVar-1, x)}, x}, {x, []api.Bind{bind(0, far), bind(api.MaxVar-1, a)}, far},
		{fun("f", x, y), binds(a, b), fun("f", a, b)}, {fun("f", y, x), binds(a, b), fun("f", b, a)}, {fun("f", x, fun("g", x, y)), binds(a), fun("f", a, fun("g", a, y))}, {fun("f", times(8, x)...), binds(fun("g", a)), fun("f", times(8, fun("g", a))...)},
		// Once, and all at the same time: what is in a value is not replaced.
		{x, binds(y, a), y}, {x, binds(fun("f", y), a), fun("f", y)}, {fun("f", x, y), binds(y, a), fun("f", y, a)}, {fun("f", x, y), binds(y, x), fun("f", y, x)}, {fun("f", x, y), []api.Bind{bind(1, x), bind(0, y)}, fun("f", y, x)},
		{fun("f", x, y, z), binds(y, z, x), fun("f", y, z, x)}, {fun("f", x, y), binds(fun("g", y), fun("g", x)), fun("f", fun("g", y), fun("g", x))}, {fun("f", x, y), []api.Bind{bind(1, a), bind(0, y)}, fun("f", y, a)},
		// A variable may be inside its own value, or be it.
		{x, binds(x), x}, {twice(x), binds(fun("g", x)), twice(fun("g", x))}, {fun("f", x, y), binds(fun("f", x, x), fun("f", y, x)), fun("f", fun("f", x, x), fun("f", y, x))},
		// Binds of other variables are of no account.
		{a, binds(b, a), a}, {fun("f", y), []api.Bind{bind(7, a), bind(1, b), bind(0, a)}, fun("f", b)}, {fun("f", z), binds(a, b), fun("f", z)},
		// Only variables are replaced: not numbers and names that look like them.
		{fun("f", number(0), fun("_0"), fun("0"), number(1), fun("_1", x)), binds(a, a), fun("f", number(0), fun("_0"), fun("0"), number(1), fun("_1", a))}, {number(0), binds(a), number(0)}, {fun("f", x, number(1)), binds(number(1), a), fun("f", number(1), number(1))}, {fun("g"), binds(a), fun("g")}, {fun("g", y), binds(a), fun("g", y)},
	} {
		checkFill(t, c.pattern, c.l, c.want)
	}
}

func TestFillOfWrongPatterns(t *testing.T) {
	for _, x := range wrongOnes() {
		for _, l := range [][]api.Bind{nil, binds(fun("a")), binds(fun("a"), fun("b")), {bind(-1, fun("a"))}, binds(sized(api.MaxNodes, fun("a")))} {
			checkFillFails(t, x, l, api.ErrArg)
		}
	}
}

// wrongValues returns binds that cannot fill a pattern, with one fault each.
func wrongValues() [][]api.Bind {
	a := fun("a")
	var l [][]api.Bind
	for _, v := range []int{-1, api.MaxVar, api.MaxVar + 1, -api.MaxVar, math.MinInt, math.MaxInt} {
		l = append(l, []api.Bind{bind(v, a)}, []api.Bind{bind(v, a), bind(0, a)}, []api.Bind{bind(0, a), bind(1, a), bind(v, variable(2))})
	}
	for _, x := range wrongOnes() {
		l = append(l, binds(x), binds(a, x), []api.Bind{bind(9, a), bind(8, x), bind(0, a)})
	}
	return append(l,
		// A variable that occurs twice, also with the same term.
		[]api.Bind{bind(0, a), bind(0, a)}, []api.Bind{bind(0, a), bind(0, fun("b"))}, []api.Bind{bind(0, variable(0)), bind(0, variable(0))}, []api.Bind{bind(4, a), bind(0, a), bind(5, a), bind(4, a)},
		[]api.Bind{bind(0, a), bind(1, a), bind(2, a), bind(2, variable(3)), bind(3, a)}, []api.Bind{bind(api.MaxVar-1, a), bind(api.MaxVar-1, a)}, append(binds(variables(1, 500)...), bind(250, variable(251))),
	)
}

// R2: what is not valid comes before what is too large, wherever it is, and also if the pattern has no such variable.
func TestFillOfWrongValues(t *testing.T) {
	large := []api.Bind{bind(500000, sized(api.MaxNodes, fun("a")))}
	tooLarge := fun("f", variable(500000), variable(0))
	for _, l := range wrongValues() {
		for _, x := range []api.Term{fun("a"), number(1), variable(0), fun("f", variable(7), variable(0)), tooLarge, {}} {
			checkFillFails(t, x, l, api.ErrArg)
		}
		checkFillFails(t, tooLarge, slices.Concat(large, l), api.ErrArg)
		checkFillFails(t, tooLarge, slices.Concat(l, large), api.ErrArg)
		checkFillFails(t, variable(900), slices.Concat(large, l), api.ErrArg)
	}
	checkFillFails(t, tooLarge, large, api.ErrLarge)
}

func TestFillBounds(t *testing.T) {
	for _, v := range []int{math.MinInt, -api.MaxVar, -1, 0, 1, 999998, 999999, 1000000, 1000001, math.MaxInt} {
		l := []api.Bind{bind(v, fun("a"))}
		if v < 0 || v > 999999 {
			checkFillFails(t, fun("b"), l, api.ErrArg)
			continue
		}
		checkFill(t, fun("b"), l, fun("b"))
		checkFill(t, fun("f", variable(v)), l, fun("f", fun("a")))
	}
}

// Values that no substitution has, and the same values in any order.
func TestFillFollowsTheWords(t *testing.T) {
	r := rand.New(rand.NewSource(52))
	for range 20000 {
		pattern, l := anyPattern(r.Intn, 5), anyValues(r, 5)
		want := filledByWords(pattern, l)
		checkFill(t, pattern, l, want)
		r.Shuffle(len(l), func(i, j int) { l[i], l[j] = l[j], l[i] })
		checkFill(t, pattern, append(l, bind(9, variable(0))), want)
	}
}

func TestFillWithRightTerms(t *testing.T) {
	for _, x := range rightOnes() {
		for i, y := range rightOnes() {
			checkFill(t, variable(i), []api.Bind{bind(i+1, x), bind(i, y)}, y)
			for _, v := range term.Vars([]api.Term{x}) {
				l := []api.Bind{bind(v, y)}
				checkFill(t, x, l, filledByWords(x, l))
			}
		}
	}
}

func TestFillNodes(t *testing.T) {
	a := fun("a")
	for _, leaf := range []api.Term{variable(0), variable(5), number(9), a} {
		for n := 2995; n <= 3005; n++ {
			part := sized(n-2001, leaf)
			checkFill(t, fun("f", variable(0), sized(2000, a)), binds(part), fun("f", part, sized(2000, a)))
			checkFill(t, fun("f", sized(2000, a), variable(0)), binds(part), fun("f", sized(2000, a), part))
			checkFill(t, fun("f", sized(1000, variable(1)), variable(0), sized(1000, variable(1))), binds(part, leaf), fun("f", sized(1000, leaf), part, sized(1000, leaf)))
		}
	}
	checkFill(t, fun("f", variable(0), variable(1)), binds(sized(1499, a), sized(1500, a)), fun("f", sized(1499, a), sized(1500, a)))
	checkFillFails(t, fun("f", variable(0), variable(1)), binds(sized(1500, a), sized(1500, a)), api.ErrLarge)
	// What is as large as permitted stays so.
	checkFill(t, sized(3000, variable(0)), binds(a), sized(3000, a))
	checkFillFails(t, sized(3000, variable(0)), binds(fun("g", a)), api.ErrLarge)
	checkFill(t, variable(0), binds(sized(3000, a)), sized(3000, a))
	// Large values are of no account if no variable is replaced by them.
	checkFill(t, variable(3), append(binds(times(3, sized(3000, a))...), bind(3, a)), a)
	checkFill(t, sized(3000, variable(3)), binds(times(3, sized(3000, a))...), sized(3000, variable(3)))
}

func TestFillDepth(t *testing.T) {
	for _, leaf := range []api.Term{variable(0), variable(5), number(9), fun("a")} {
		for n := 95; n <= 105; n++ {
			for _, above := range []int{5, 6, 40, 94} {
				part := deep(n-1-above, leaf)
				checkFill(t, deep(above, variable(0)), binds(part), deep(n-1, leaf))
				checkFill(t, fun("g", deep(above-1, variable(0)), leaf), binds(part), filledByWords(fun("g", deep(above-1, variable(0)), leaf), binds(part)))
				checkFill(t, fun("g", variable(1), deep(above-1, variable(0))), binds(part, part), fun("g", part, deep(above-1, part)))
			}
		}
	}
	checkFill(t, deep(99, variable(0)), binds(number(1)), deep(99, number(1)))
	checkFillFails(t, deep(99, variable(0)), binds(deep(99, fun("a"))), api.ErrLarge)
}

// A result that would be one of millions of terms.
func TestFillOfEnormousTerms(t *testing.T) {
	large := sized(3000, variable(0))
	checkFillFails(t, large, binds(sized(3000, fun("a"))), api.ErrLarge)
	checkFillFails(t, large, binds(large), api.ErrLarge)
	checkFillFails(t, numbered(large, 0), binds(times(1000, large)...), api.ErrLarge)
}
