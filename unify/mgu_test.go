package unify_test

import (
	"math"
	"math/rand"
	"slices"
	"testing"

	"finial/api"
	"finial/sample"
	"finial/subst"
	"finial/term"
	"finial/unify"
)

// P4.1: Mgu.

func TestExamples(t *testing.T) {
	l, unified, e := unify.Mgu(fun("f", variable(0), fun("g", variable(1))), fun("f", fun("a"), fun("g", variable(0))))
	if e != api.OK || !unified || len(l) != 2 {
		t.Fatalf("Mgu: %v, %v, %d", l, unified, e)
	}
	for v := range 2 {
		if x, e := subst.Apply(l, variable(v)); e != api.OK || !alike(x, fun("a")) {
			t.Errorf("the variable %d becomes %s, %d", v, brief(x), e)
		}
	}
	if l, unified, e := unify.Mgu(variable(0), fun("f", variable(0))); e != api.OK || unified || len(l) != 0 {
		t.Errorf("Mgu: %v, %v, %d", l, unified, e)
	}
}

func TestMgu(t *testing.T) {
	a, b, x, y, z, far := fun("a"), fun("b"), variable(0), variable(1), variable(2), variable(api.MaxVar-1)
	for i, c := range []struct {
		a, b, want api.Term // what both become, but for the names of its variables
		binds      int
	}{
		{a, a, a, 0}, {number(3), number(3), number(3), 0}, {number(math.MinInt), number(math.MinInt), number(math.MinInt), 0}, {x, x, x, 0}, {far, far, far, 0},
		{x, a, a, 1}, {a, x, a, 1}, {x, number(-7), number(-7), 1}, {number(0), x, number(0), 1}, {x, y, x, 1}, {y, x, x, 1}, {far, x, x, 1}, {far, a, a, 1},
		{fun("f", a), fun("f", a), fun("f", a), 0}, {fun("f", x, y), fun("f", x, y), fun("f", x, y), 0}, {fun("f", x, y), fun("f", y, x), twice(x), 1},
		{x, fun("f", y), fun("f", y), 1}, {fun("f", y), x, fun("f", y), 1}, {fun("f", x), fun("f", fun("g", y)), fun("f", fun("g", y)), 1},
		{twice(x), fun("f", y, a), twice(a), 2}, {twice(x), fun("f", a, y), twice(a), 2}, {twice(x), fun("f", y, z), twice(x), 2}, {fun("f", x, y, z), fun("f", y, z, x), fun("f", x, x, x), 2},
		{fun("f", x, y), fun("f", fun("g", y), a), fun("f", fun("g", a), a), 2}, {fun("f", x, y), fun("f", y, fun("g", z)), twice(fun("g", z)), 2},
		{fun("f", x, y, z), fun("f", fun("g", y, y), fun("g", z, z), a), fun("f", fun("g", fun("g", a, a), fun("g", a, a)), fun("g", a, a), a), 3},
		{fun("f", x, x), fun("f", fun("g", y, a), fun("g", b, z)), twice(fun("g", b, a)), 3}, {fun("f", x, x, y), fun("f", fun("g", y), fun("g", z), a), fun("f", fun("g", a), fun("g", a), a), 3},
		{fun("f", x, fun("g", x)), fun("f", fun("h", y), fun("g", fun("h", y))), fun("f", fun("h", y), fun("g", fun("h", y))), 1},
		{fun("f", times(8, x)...), fun("f", variables(1, 8)...), fun("f", times(8, x)...), 8}, {fun("f", times(8, x)...), fun("f", append(variables(1, 7), a)...), fun("f", times(8, a)...), 8},
		// A variable that is found in itself again is no fault as long as it is the whole of itself.
		{twice(x), fun("f", y, x), twice(x), 1}, {fun("f", x, y, x), fun("f", y, x, y), fun("f", x, x, x), 1}, {fun("f", fun("g", x), fun("g", x)), fun("f", fun("g", y), fun("g", x)), twice(fun("g", x)), 1},
		{fun("f", x, y, fun("g", x)), fun("f", fun("g", z), fun("g", z), fun("g", y)), fun("f", fun("g", z), fun("g", z), fun("g", fun("g", z))), 2},
		// Names and numbers that look like variables are none.
		{fun("f", fun("_0"), x), fun("f", y, number(1)), fun("f", fun("_0"), number(1)), 2},
	} {
		for _, p := range []pair{{c.a, c.b}, {c.b, c.a}} {
			if !checkMgu(t, p[0], p[1]) {
				t.Errorf("%d: %s and %s are not unified", i, brief(p[0]), brief(p[1]))
				continue
			}
			l, _, _ := unify.Mgu(p[0], p[1])
			if got := becomes(l, p[0]); !alike(together([]api.Term{got})[0], together([]api.Term{c.want})[0]) || len(l) != c.binds {
				t.Errorf("%d: %s and %s become %s by %d binds, not %s by %d", i, brief(p[0]), brief(p[1]), brief(got), len(l), brief(c.want), c.binds)
			}
		}
	}
}

func TestNoMgu(t *testing.T) {
	a, b, x, y, z, w := fun("a"), fun("b"), variable(0), variable(1), variable(2), variable(3)
	for i, c := range []pair{
		{a, b}, {a, number(0)}, {fun("0"), number(0)}, {number(0), number(1)}, {number(math.MinInt), number(math.MaxInt)}, {a, fun("a", a)}, {fun("a", x), fun("b", x)}, {fun("a"), fun("a ")}, {fun("a"), fun("A")},
		{fun("f", x), fun("f", x, x)}, {fun("f", x, y), fun("f", x)}, {fun("f", x), number(1)}, {fun("f", a), fun("f", b)}, {fun("f", a, x), fun("f", b, x)}, {fun("f", x, a), fun("f", x, b)},
		{twice(x), fun("f", a, b)}, {fun("f", x, y, x), fun("f", y, a, b)}, {fun("f", x, x), fun("f", fun("g", y), fun("h", y))}, {fun("f", x, x), fun("f", fun("g", y, a), fun("g", b, y))}, {fun("f", fun("g", x), x), fun("f", fun("g", a), b)},
		{fun("f", x, y, z, x), fun("f", y, z, number(1), number(2))}, {fun("f", times(8, x)...), fun("f", append(times(7, a), b)...)},
		// The occurs check.
		{x, fun("f", x)}, {x, fun("f", a, b, x)}, {x, fun("f", fun("g", a, fun("h", x)))}, {fun("f", x), fun("f", fun("f", x))}, {x, deep(api.MaxDeep-1, x)},
		{twice(x), fun("f", y, fun("g", y))}, {fun("f", x, y), fun("f", fun("g", y), fun("g", x))}, {fun("f", x, y), fun("f", y, fun("g", x))}, {fun("f", x, y, z), fun("f", fun("g", y), fun("g", z), fun("g", x))},
		{fun("f", x, x), fun("f", fun("g", y), fun("g", fun("g", y)))}, {fun("f", x, fun("g", x)), fun("f", fun("g", y), y)}, {fun("f", x, y, x), fun("f", y, fun("g", z), z)},
		{fun("f", x, y, x, w), fun("f", fun("g", z, w), fun("g", a, z), y, fun("h", z))}, {fun("f", fun("g", x), a, x), fun("f", y, z, y)}, {fun("f", x, w, x), fun("f", fun("g", y, a), w, fun("g", x, z))},
	} {
		for _, p := range []pair{{c[0], c[1]}, {c[1], c[0]}} {
			if l, unified, e := unify.Mgu(p[0], p[1]); e != api.OK || unified || len(l) != 0 {
				t.Errorf("%d: Mgu of %s and %s: %v, %v, %d", i, brief(p[0]), brief(p[1]), l, unified, e)
			}
			checkMgu(t, p[0], p[1])
		}
	}
}

func TestMguOfWrongTerms(t *testing.T) {
	for _, x := range wrongOnes() {
		for _, y := range []api.Term{fun("a"), variable(0), variable(1), fun("f", variable(1)), x, {}} {
			for _, p := range []pair{{x, y}, {y, x}} {
				if l, unified, e := unify.Mgu(p[0], p[1]); e != api.ErrArg || unified || len(l) != 0 {
					t.Errorf("Mgu of %s and %s: %v, %v, %d", brief(p[0]), brief(p[1]), l, unified, e)
				}
			}
		}
	}
}

func TestMguOfRightTerms(t *testing.T) {
	free := variable(api.MaxVar - 2)
	for _, x := range rightOnes() {
		if l, unified, e := unify.Mgu(x, x); e != api.OK || !unified || len(l) != 0 {
			t.Errorf("Mgu of %s and itself: %v, %v, %d", brief(x), l, unified, e)
		}
		for _, p := range []pair{{x, free}, {free, x}} {
			l, unified, e := unify.Mgu(p[0], p[1])
			if e != api.OK || !unified || len(l) != 1 || !alike(becomes(l, x), becomes(l, free)) {
				t.Errorf("Mgu of %s and a variable: %v, %v, %d", brief(x), l, unified, e)
			}
			checkRightMgu(t, x, free, l)
		}
		for _, y := range rightOnes() {
			checkMgu(t, x, y)
		}
	}
}

func TestMguFollowsTheWords(t *testing.T) {
	r := rand.New(rand.NewSource(41))
	count := map[bool]int{}
	for range 20000 {
		p := anyPair(r, 1+r.Intn(5))
		count[checkMgu(t, p[0], p[1])]++
		a, b := packedPairs(anyPairs(r, 1+r.Intn(5), 2+r.Intn(9)))
		count[checkMgu(t, a, b)]++
	}
	if count[true] < 8000 || count[false] < 8000 {
		t.Errorf("too few of one kind: %v", count)
	}
}

// By the definition alone: of all flat substitutions of a few terms, those that unify two terms make the same of each
// variable as of what the most general one makes of it; if there are any, there is a most general one.
func TestMguIsMostGeneral(t *testing.T) {
	a, b, x, y, z := fun("a"), fun("b"), variable(0), variable(1), variable(2)
	small := []api.Term{x, y, a, b, fun("g", x), fun("g", y), fun("g", a), twice(x), twice(y), fun("f", x, y), fun("f", y, x), fun("f", x, a), fun("f", b, y), fun("f", a, b), fun("f", fun("g", x), y), fun("f", y, fun("g", a)), fun("f", fun("g", y), fun("g", b))}
	into := []api.Term{a, b, z, fun("g", a), fun("g", b), fun("g", z), fun("g", fun("g", a)), twice(a), twice(z), fun("f", z, a), fun("f", a, b), fun("f", b, a), fun("f", b, b), fun("f", fun("g", a), b), fun("f", a, fun("g", a))}
	ways := [][]api.Bind{nil, {bind(0, y)}, {bind(1, x)}, {bind(0, fun("g", y))}, {bind(1, fun("g", x))}, {bind(0, fun("f", y, a))}, {bind(0, twice(y))}, {bind(1, twice(x))}, {bind(1, fun("f", b, x))}}
	for _, v := range into {
		ways = append(ways, []api.Bind{bind(0, v)}, []api.Bind{bind(1, v)})
		for _, w := range into {
			ways = append(ways, binds(v, w), []api.Bind{bind(1, w), bind(0, v), bind(7, fun("h", z))})
		}
	}
	found := 0
	for _, c := range small {
		for _, d := range small {
			l, unified, e := unify.Mgu(c, d)
			if e != api.OK {
				t.Fatalf("Mgu of %s and %s: %d", brief(c), brief(d), e)
			}
			checkRightMgu(t, c, d, l)
			if unified && !alike(becomes(l, c), becomes(l, d)) {
				t.Errorf("Mgu of %s and %s does not unify them: %v", brief(c), brief(d), l)
			}
			for _, w := range ways {
				if !alike(becomes(w, c), becomes(w, d)) {
					continue
				}
				found++
				for _, v := range []api.Term{x, y, z, variable(7)} {
					if !unified || !alike(becomes(w, v), becomes(w, becomes(l, v))) {
						t.Fatalf("Mgu of %s and %s: %v, %v; not most general, beside %v", brief(c), brief(d), l, unified, w)
					}
				}
			}
		}
	}
	if found < 5000 {
		t.Errorf("only %d substitutions unify terms", found)
	}
}

// The same for larger terms, with substitutions that do more than needed.
func TestMguIsMoreGeneral(t *testing.T) {
	r := rand.New(rand.NewSource(42))
	found := 0
	for range 5000 {
		a, b := packedPairs(anyPairs(r, 1+r.Intn(3), 5))
		least, is := unifiedByWords(pair{a, b})
		if !is {
			continue
		}
		found++
		l, _, _ := unify.Mgu(a, b)
		var more []api.Bind
		for v := range 5 {
			if x, _ := term.Shift(sample.AnyTerm(r.Intn, 3, 2), 100); r.Intn(2) == 0 {
				more = append(more, bind(v, x))
			}
		}
		var w []api.Bind
		for v := range 5 {
			if x := becomes(more, becomes(least, variable(v))); !alike(x, variable(v)) {
				w = append(w, bind(v, x))
			}
		}
		for v := range 5 {
			if x := variable(v); !alike(becomes(w, x), becomes(w, becomes(l, x))) {
				t.Fatalf("Mgu of %s and %s: %v; not most general, beside %v", brief(a), brief(b), l, w)
			}
		}
	}
	if found < 1000 {
		t.Errorf("only %d terms were unified", found)
	}
}

// P4.1: a most general substitution is valid also where what terms become is too large.
func TestMguOfTermsThatBecomeTooLarge(t *testing.T) {
	x, y, z := variable(0), variable(1), variable(2)
	for i, c := range []struct {
		a, b  api.Term
		large []api.Term
	}{
		{fun("f", x, y), fun("f", deep(98, y), deep(98, z)), []api.Term{x}},
		{fun("f", x, y), fun("f", sized(1499, y), sized(1499, z)), []api.Term{x}},
		{fun("f", x, y, z), fun("f", sized(900, y), fun("g", z), sized(900, fun("a"))), []api.Term{x}},
		{fun("f", sized(2000, x), x), fun("f", y, sized(900, fun("a"))), []api.Term{y}},
	} {
		for _, p := range []pair{{c.a, c.b}, {c.b, c.a}} {
			l, unified, e := unify.Mgu(p[0], p[1])
			if e != api.OK || !unified {
				t.Errorf("%d: Mgu: %d binds, %v, %d", i, len(l), unified, e)
			}
			checkRightMgu(t, p[0], p[1], l)
			for _, v := range []api.Term{x, y, z} {
				want := api.OK
				if slices.ContainsFunc(c.large, func(w api.Term) bool { return alike(v, w) }) {
					want = api.ErrLarge
				}
				if x, e := subst.Apply(l, v); e != want {
					t.Errorf("%d: the variable %d becomes %s, %d", i, v.N, brief(x), e)
				}
			}
		}
	}
}
