package unify_test

import (
	"math/rand"
	"slices"
	"testing"

	"finial/api"
	"finial/term"
	"finial/unify"
)

// P4.1 to P4.3: few binds can stand for more terms, and many lead further, than could be gone through one by one, or one inside the other.

// enormous are pairs that make the variables left and right terms of 80 doublings, each above one variable, its end.
type enormous struct {
	name       string
	pairs      []pair
	ends       []api.Term
	small, top api.Term // what is 8 doublings above the end of left, and what is 12 above it
}

var left, right = variable(0), variable(500)

func quadruple(x api.Term) api.Term { return twice(twice(x)) }

// levels are n pairs, of the variables from first on, each with what step makes of the next one.
func levels(first, n int, step func(api.Term) api.Term) []pair {
	var l []pair
	for i := range n {
		l = append(l, pair{variable(first + i), step(variable(first + i + 1))})
	}
	return l
}

// someEnormous are terms whose variables stand at the same levels, and such where no variable of one stands where one of the other does.
func someEnormous() []enormous {
	one := levels(0, 40, quadruple)
	alike := enormous{"alike", append(levels(500, 40, quadruple), one...), []api.Term{variable(40), variable(540)}, variable(36), variable(34)}
	shifted := enormous{"shifted", nil, []api.Term{variable(40), variable(541)}, variable(36), variable(34)}
	shifted.pairs = slices.Concat(levels(500, 1, twice), levels(501, 39, quadruple), levels(540, 1, twice), one)
	return []enormous{alike, shifted}
}

// orders are the pairs in several orders.
func orders(l []pair) [][]pair {
	r := rand.New(rand.NewSource(43))
	m := [][]pair{l, reversed(l)}
	for range 8 {
		m = append(m, shuffled(r, l))
	}
	return m
}

func TestEnormousTerms(t *testing.T) {
	for _, c := range someEnormous() {
		for i, l := range orders(append(c.pairs, pair{left, right})) {
			a, b := packedPairs(l)
			m, unified, e := unify.Mgu(a, b)
			if e != api.OK || !unified || len(m) != len(l) {
				t.Errorf("%s, %d: Mgu: %d binds, %v, %d", c.name, i, len(m), unified, e)
			}
			checkRightMgu(t, a, b, m)
			s := stored(t, l...)
			checkEnormous(t, c, s, len(l))
			for _, p := range append(l, pair{a, b}, pair{twice(left), fun("f", right, left)}) {
				mustUnify(t, s, p[0], p[1])
			}
			mustNotUnify(t, s, left, fun("f", right, fun("a")))
			mustNotUnify(t, s, c.ends[0], fun("g", right))
			mustNotUnify(t, s, fun("h", variable(300), c.ends[1]), fun("h", fun("a"), twice(left)))
			checkEnormous(t, c, s, len(l))
		}
	}
}

// checkEnormous tells whether left and right are enormous in the store, and what is small in it is there.
func checkEnormous(t *testing.T, c enormous, s *unify.Store, mark int) {
	t.Helper()
	if s.Mark() != mark {
		t.Errorf("%s: %d binds, not %d", c.name, s.Mark(), mark)
	}
	for _, z := range []api.Term{left, right, fun("g", left), c.top} {
		if v, e := s.Value(z); e != api.ErrLarge || !alike(v, api.Term{}) {
			t.Errorf("%s: Value of %s: %s, %d", c.name, brief(z), brief(v), e)
		}
	}
	end, e := s.Value(c.ends[0])
	other, f := s.Value(c.ends[1])
	want := end
	for range 4 {
		want = quadruple(want)
	}
	if e != api.OK || f != api.OK || !alike(end, other) {
		t.Errorf("%s: the ends are %s, %d and %s, %d", c.name, brief(end), e, brief(other), f)
	}
	checkValue(t, s, c.small, want)
}

// Terms that cannot be unified because of what is far below their tops.
func TestEnormousTermsThatDiffer(t *testing.T) {
	for _, c := range someEnormous() {
		a, b := c.ends[0], c.ends[1]
		for i, faults := range [][]pair{{{a, fun("a")}, {b, fun("b")}}, {{a, fun("g", left)}}, {{a, fun("g", right)}}, {{b, fun("g", left)}}, {{a, fun("f", b, fun("a"))}}, {{a, variable(499)}, {fun("h", a), fun("h", variable(498))}, {variable(498), fun("g", variable(30))}}} {
			for _, l := range orders(slices.Concat(c.pairs, faults, []pair{{left, right}})) {
				if m, unified, e := unify.Mgu(packedPairs(l)); e != api.OK || unified || len(m) > 0 {
					t.Errorf("%s, %d: Mgu: %d binds, %v, %d", c.name, i, len(m), unified, e)
				}
				s, failed := unify.New(), 0
				for _, p := range l {
					mark := s.Mark()
					if unified, e := s.Unify(p[0], p[1]); e != api.OK || !unified && s.Mark() != mark {
						t.Errorf("%s, %d: Unify: %v, %d; %d binds after %d", c.name, i, unified, e, s.Mark(), mark)
					} else if !unified {
						failed++
					}
				}
				if failed == 0 {
					t.Errorf("%s, %d: all were unified", c.name, i)
				}
			}
		}
	}
}

// A variable that stands for many other ones in turn.
func TestLongChainsOfVariables(t *testing.T) {
	const n = 100000
	up := levels(0, n, func(x api.Term) api.Term { return x })
	for i, l := range [][]pair{up, reversed(up), slices.Concat(reversed(up[:n/2]), up[n/2:]), slices.Concat(up[n/2:], reversed(up[:n/2]))} {
		s := stored(t, l...)
		one, e := s.Value(variable(0))
		if e != api.OK || one.Kind != api.Var || s.Mark() != n {
			t.Fatalf("%d: Value: %s, %d; %d binds", i, brief(one), e, s.Mark())
		}
		checkValue(t, s, fun("f", variable(n), variable(n/2), variable(n+1)), fun("f", one, one, variable(n+1)))
		mustUnify(t, s, variable(0), variable(n))
		mustNotUnify(t, s, variable(0), fun("g", variable(n)))
		mustNotUnify(t, s, fun("g", variable(n/2)), variable(n))
		mustUnify(t, s, variable(n/3), number(7))
		checkValue(t, s, fun("f", variable(n), variable(0)), fun("f", number(7), number(7)))
		if e := s.Undo(n); e != api.OK || s.Mark() != n {
			t.Errorf("%d: Undo: %d; %d binds", i, e, s.Mark())
		}
		checkValue(t, s, fun("f", variable(n), variable(0)), fun("f", one, one))
	}
}

// A variable inside another one, and this inside the next one, many times.
func TestLongChainsOfTerms(t *testing.T) {
	const n, other = 50000, 200000
	step := func(x api.Term) api.Term { return fun("f", fun("a"), x) }
	s := stored(t, slices.Concat(levels(0, n, step), levels(other, n, step))...)
	last := variable(n)
	for _, x := range []api.Term{variable(0), variable(n - 1), variable(n / 2)} {
		mustNotUnify(t, s, last, fun("g", x))
		mustNotUnify(t, s, fun("g", fun("b"), x), fun("g", variable(n+1), last))
	}
	mustUnify(t, s, variable(0), variable(other))
	if s.Mark() != 2*n+1 {
		t.Errorf("%d binds", s.Mark())
	}
	mustUnify(t, s, variable(n/2), variable(other+n/2))
	mustNotUnify(t, s, variable(n/2), variable(other+n/2+1))
	mustNotUnify(t, s, variable(0), variable(other+n))
	mustUnify(t, s, variable(other+n), fun("b"))
	checkValue(t, s, variable(n-2), step(step(fun("b"))))
	checkValue(t, s, variable(0), deep(200, fun("b")))
	if e := s.Undo(0); e != api.OK || s.Mark() != 0 {
		t.Errorf("Undo: %d; %d binds", e, s.Mark())
	}
	mustUnify(t, s, last, fun("g", variable(0)))
}

// The same, built from the innermost one on.
func TestLongChainsFromTheirEnds(t *testing.T) {
	const n = 1000
	s := stored(t, reversed(levels(0, n, func(x api.Term) api.Term { return fun("f", x) }))...)
	mustNotUnify(t, s, variable(n), fun("g", variable(0)))
	mustUnify(t, s, variable(n), fun("g", variable(n+1)))
	checkValue(t, s, variable(n-98), deep(98, fun("g", variable(n+1))))
	checkValue(t, s, variable(n-97), deep(97, fun("g", variable(n+1))))
	if s.Mark() != n+1 {
		t.Errorf("%d binds", s.Mark())
	}
}

// As many variables as terms may have, all in one unification.
func TestManyVariablesAtOnce(t *testing.T) {
	const n = 2000
	for _, l := range [][]pair{levels(0, n, func(x api.Term) api.Term { return x }), {}} {
		for i := len(l); i < n; i++ {
			l = append(l, pair{variable(i), variable(n)})
		}
		a, b := packedPairs(l)
		m, unified, e := unify.Mgu(a, b)
		if e != api.OK || !unified || len(m) != n {
			t.Fatalf("Mgu: %d binds, %v, %d", len(m), unified, e)
		}
		checkRightMgu(t, a, b, m)
		s := stored(t, pair{a, b})
		v, e := s.Value(a)
		if vars := term.Vars([]api.Term{v}); e != api.OK || len(vars) != 1 {
			t.Errorf("Value: %d variables, %d", len(vars), e)
		}
	}
}
