package match_test

import (
	"math"
	"math/rand"
	"testing"

	"finial/api"
	"finial/match"
	"finial/term"
)

// P5.1: Match; P5.2: Instance, which each check asks too.

func TestExample(t *testing.T) {
	x := variable(0)
	checkWanted(t, twice(x), twice(fun("g", x)), binds(fun("g", x)), true)
}

func TestMatch(t *testing.T) {
	a, b, x, y, z, far := fun("a"), fun("b"), variable(0), variable(1), variable(2), variable(api.MaxVar-1)
	for _, c := range []struct {
		pattern, t api.Term
		want       []api.Bind
	}{
		{a, a, nil}, {number(-3), number(-3), nil}, {number(math.MinInt), number(math.MinInt), nil}, {fun("f", a, number(0)), fun("f", a, number(0)), nil},
		{x, a, binds(a)}, {x, number(7), binds(number(7))}, {x, fun("f", a, b), binds(fun("f", a, b))}, {far, a, []api.Bind{bind(api.MaxVar-1, a)}},
		{fun("f", x), fun("f", a), binds(a)}, {fun("f", a, x), fun("f", a, b), binds(b)}, {fun("f", x, y), fun("f", a, a), binds(a, a)},
		{twice(x), twice(a), binds(a)}, {twice(x), twice(fun("g", a, b)), binds(fun("g", a, b))}, {fun("f", x, x, x), fun("f", number(1), number(1), number(1)), binds(number(1))},
		// In the order of the first occurrence, not in that of the numbers.
		{fun("f", z, x, y), fun("f", a, b, number(3)), []api.Bind{bind(2, a), bind(0, b), bind(1, number(3))}},
		{fun("f", far, x, far, y, x), fun("f", a, b, a, a, b), []api.Bind{bind(api.MaxVar-1, a), bind(0, b), bind(1, a)}},
		{fun("f", fun("g", fun("h", y), z), x), fun("f", fun("g", fun("h", a), b), a), []api.Bind{bind(1, a), bind(2, b), bind(0, a)}},
		{fun("f", z, fun("g", y, z), fun("g", x, y)), fun("f", a, fun("g", b, a), fun("g", a, b)), []api.Bind{bind(2, a), bind(1, b), bind(0, a)}},
		// The variables of the term are not those of the pattern.
		{x, x, binds(x)}, {x, y, binds(y)}, {y, x, []api.Bind{bind(1, x)}}, {x, fun("f", x), binds(fun("f", x))}, {x, fun("f", y), binds(fun("f", y))}, {fun("f", x), fun("f", fun("f", x)), binds(fun("f", x))},
		{fun("f", x, y), fun("f", y, x), binds(y, x)}, {fun("f", x, y), fun("f", x, y), binds(x, y)}, {fun("f", x, y), fun("f", x, x), binds(x, x)}, {fun("f", x, y), fun("f", y, y), binds(y, y)}, {fun("f", x, y), fun("f", y, z), binds(y, z)},
		{fun("f", x, y), fun("f", fun("g", y), fun("g", x)), binds(fun("g", y), fun("g", x))}, {fun("f", x, y, x, y), fun("f", y, a, y, a), binds(y, a)}, {fun("f", x, y, y), fun("f", y, x, x), binds(y, x)}, {fun("f", x, fun("g", x)), fun("f", fun("g", x), fun("g", fun("g", x))), binds(fun("g", x))},
		// Names and numbers that look like variables are none.
		{fun("f", fun("_0"), number(0), x), fun("f", fun("_0"), number(0), number(1)), binds(number(1))}, {fun("f", x, number(0)), fun("f", fun("_0"), number(0)), binds(fun("_0"))}, {fun("f", number(0), x, number(1)), fun("f", number(0), y, number(1)), binds(y)},
		{fun("f", times(8, x)...), fun("f", times(8, a)...), binds(a)}, {fun("f", variables(0, 8)...), fun("f", append(variables(5, 7), a)...), binds(append(variables(5, 7), a)...)},
	} {
		checkWanted(t, c.pattern, c.t, c.want, true)
		checkMatch(t, c.pattern, c.t)
	}
}

func TestNoMatch(t *testing.T) {
	a, b, x, y, z := fun("a"), fun("b"), variable(0), variable(1), variable(2)
	for _, c := range []struct{ pattern, t api.Term }{
		{a, b}, {a, fun("A")}, {a, fun("a ")}, {a, fun("a", a)}, {fun("a", a), a}, {number(0), number(1)}, {number(0), fun("0")}, {fun("0"), number(0)}, {number(math.MinInt), number(math.MaxInt)},
		// A pattern's Funs and Nums do not meet variables: a variable of the term is not replaced.
		{a, x}, {number(0), x}, {number(0), variable(0)}, {fun("_0"), x}, {fun("f", a), fun("f", x)}, {fun("f", a, y), fun("f", x, a)}, {fun("f", x, a), fun("f", x, y)}, {fun("f", x, x), x}, {fun("f", fun("g", x)), fun("f", x)},
		{fun("f", x), fun("g", a)}, {fun("f", x), fun("f", a, b)}, {fun("f", x, y), fun("f", a)}, {fun("f", x), fun("f")}, {fun("f"), fun("f", x)}, {fun("f", x), a}, {fun("f", x), number(0)},
		{fun("f", a, x), fun("f", b, a)}, {fun("f", x, a), fun("f", a, b)}, {fun("f", x, fun("g", a)), fun("f", b, fun("g", b))}, {fun("f", fun("g", x), y, a), fun("f", fun("g", a), a, x)},
		// One variable has one value.
		{twice(x), fun("f", a, b)}, {twice(x), fun("f", a, number(1))}, {twice(x), fun("f", x, y)}, {twice(x), fun("f", y, x)}, {twice(x), fun("f", x, a)}, {twice(x), fun("f", a, x)}, {twice(x), fun("f", x, fun("g", x))}, {twice(x), fun("f", fun("g", a), fun("g", b))}, {twice(x), fun("f", fun("g", x), fun("g", y))}, {twice(x), fun("f", fun("_0"), x)},
		{fun("f", x, y, x), fun("f", a, b, b)}, {fun("f", x, y, y, x), fun("f", y, x, x, x)}, {fun("f", x, fun("g", x)), fun("f", a, fun("g", b))}, {fun("f", x, fun("g", x)), fun("f", fun("g", x), fun("g", x))}, {fun("f", fun("g", x), x), fun("f", fun("g", a), fun("g", a))},
		{fun("f", x, y, z, x, y, z), fun("f", a, b, number(2), a, b, number(3))}, {fun("f", times(8, x)...), fun("f", append(times(7, a), b)...)}, {fun("f", times(8, x)...), fun("f", append(times(7, x), y)...)},
	} {
		checkWanted(t, c.pattern, c.t, nil, false)
		checkMatch(t, c.pattern, c.t)
	}
}

// R2: also where the other term tells already that there is no instance.
func TestMatchOfWrongTerms(t *testing.T) {
	for _, x := range wrongOnes() {
		for _, y := range []api.Term{fun("a"), variable(0), number(0), fun("f", variable(1)), twice(variable(0)), x, {}} {
			checkRefused(t, x, y)
			checkRefused(t, y, x)
		}
	}
}

func TestMatchBounds(t *testing.T) {
	for _, v := range []int{math.MinInt, -api.MaxVar, -1, 0, 1, 999998, 999999, 1000000, 1000001, math.MaxInt} {
		x := variable(v)
		if v < 0 || v > 999999 {
			checkRefused(t, x, fun("a"))
			checkRefused(t, variable(0), x)
			continue
		}
		checkWanted(t, x, fun("a"), []api.Bind{bind(v, fun("a"))}, true)
		checkWanted(t, variable(0), x, binds(x), true)
	}
}

func TestMatchOfRightTerms(t *testing.T) {
	for _, x := range rightOnes() {
		if !checkMatch(t, x, x) {
			t.Errorf("no instance of itself: %s", brief(x))
		}
		checkWanted(t, variable(5), x, []api.Bind{bind(5, x)}, true)
		for _, y := range rightOnes() {
			checkMatch(t, x, y)
			if p, q := fun("f", x, variable(0)), fun("f", y, x); term.Right(p) && term.Right(q) {
				checkMatch(t, p, q)
			} else {
				checkRefused(t, p, q)
			}
		}
	}
}

// Terms that are as large as permitted.
func TestMatchOfLargeTerms(t *testing.T) {
	a, b, x := fun("a"), fun("b"), variable(0)
	for _, leaf := range []api.Term{a, number(4), variable(3)} {
		checkWanted(t, x, sized(api.MaxNodes, leaf), binds(sized(api.MaxNodes, leaf)), true)
		checkWanted(t, sized(api.MaxNodes, x), sized(api.MaxNodes, leaf), binds(leaf), true)
		checkWanted(t, deep(api.MaxDeep-1, x), deep(api.MaxDeep-1, leaf), binds(leaf), true)
		checkWanted(t, deep(98, x), deep(api.MaxDeep-1, leaf), binds(fun("f", leaf)), true)
		checkWanted(t, deep(api.MaxDeep-1, x), deep(98, leaf), nil, false)
		checkWanted(t, twice(x), twice(deep(98, leaf)), binds(deep(98, leaf)), true)
		checkWanted(t, twice(x), fun("f", deep(98, leaf), deep(98, b)), nil, false)
		checkWanted(t, fun("f", x, x, a), fun("f", sized(1499, leaf), sized(1499, leaf), a), binds(sized(1499, leaf)), true)
		checkWanted(t, fun("f", x, x, b), fun("f", sized(1499, leaf), sized(1499, leaf), a), nil, false)
		checkWanted(t, twice(x), fun("f", sized(1499, leaf), sized(1499, b)), nil, false)
	}
	// As many variables as one term can have.
	pattern := numbered(sized(api.MaxNodes, x), 7)
	value := func(v int) api.Term { return number(v - 9) }
	var want []api.Bind
	for _, p := range inside(pattern) {
		if p.Kind == api.Var {
			want = append(want, bind(p.N, value(p.N)))
		}
	}
	if len(want) < 2400 {
		t.Fatalf("only %d variables", len(want))
	}
	checkWanted(t, pattern, filledByWords(pattern, want), want, true)
}

func TestMatchFollowsTheWords(t *testing.T) {
	r := rand.New(rand.NewSource(51))
	count := map[bool]int{}
	for range 20000 {
		pattern := anyPattern(r.Intn, 1+r.Intn(5))
		x := filledByWords(pattern, anyValues(r, 5))
		for _, y := range []api.Term{x, nearly(r.Intn, x), nearly(r.Intn, pattern), anyPattern(r.Intn, 5)} {
			count[checkMatch(t, pattern, y)]++
		}
		count[checkMatch(t, nearly(r.Intn, pattern), x)]++
	}
	if count[true] < 20000 || count[false] < 20000 {
		t.Errorf("too few of one kind: %v", count)
	}
}

// By the definition alone: the values are those terms, of all terms inside t, by which the pattern becomes t.
func TestMatchByDefinition(t *testing.T) {
	count := map[bool]int{}
	for _, pattern := range smallTerms() {
		for _, x := range smallTerms() {
			var found [][]api.Bind
			parts := inside(x)
			for _, v := range parts {
				for _, w := range parts {
					if l := binds(v, w); alike(filledByWords(pattern, l), x) {
						found = append(found, l)
					}
				}
			}
			got, is, e := match.Match(pattern, x)
			if e != api.OK || is != (len(found) > 0) || match.Instance(x, pattern) != is {
				t.Fatalf("Match of %s and %s: %s, %v, %d; by %d values", brief(pattern), brief(x), briefBinds(got), is, e, len(found))
			}
			count[is]++
			for _, l := range found {
				for _, b := range got {
					if b.V > 1 || !alike(b.T, l[b.V].T) {
						t.Fatalf("Match of %s and %s: %s, not %s", brief(pattern), brief(x), briefBinds(got), briefBinds(l))
					}
				}
			}
		}
	}
	if count[true] < 400 || count[false] < 4000 {
		t.Errorf("too few of one kind: %v", count)
	}
}

// Instance is asked the other way round than Match.
func TestInstanceOrder(t *testing.T) {
	a, x := fun("f", fun("a")), fun("f", variable(0))
	if !match.Instance(a, x) || match.Instance(x, a) {
		t.Errorf("Instance: %v, the other way %v", match.Instance(a, x), match.Instance(x, a))
	}
}
