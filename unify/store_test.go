package unify_test

import (
	"math"
	"math/rand"
	"testing"

	"finial/api"
	"finial/sample"
	"finial/term"
	"finial/unify"
)

// P4.2: stores.

func TestNewStore(t *testing.T) {
	s := unify.New()
	if s == nil || s.Mark() != 0 {
		t.Fatalf("New: %v", s)
	}
	for _, x := range rightOnes() {
		checkValue(t, s, x, x)
	}
	if e := s.Undo(0); e != api.OK {
		t.Errorf("Undo: %d", e)
	}
	if e := s.Undo(1); e != api.ErrArg {
		t.Errorf("Undo: %d", e)
	}
}

func TestNilStore(t *testing.T) {
	var s *unify.Store
	for _, x := range []api.Term{fun("a"), variable(0), {}, deep(api.MaxDeep, fun("a"))} {
		for _, y := range []api.Term{fun("a"), variable(0), {}} {
			if unified, e := s.Unify(x, y); unified || e != api.ErrArg {
				t.Errorf("Unify of %s and %s: %v, %d", brief(x), brief(y), unified, e)
			}
		}
		if v, e := s.Value(x); e != api.ErrArg || !alike(v, api.Term{}) {
			t.Errorf("Value of %s: %s, %d", brief(x), brief(v), e)
		}
	}
	for _, mark := range []int{math.MinInt, -1, 0, 1, math.MaxInt} {
		if e := s.Undo(mark); e != api.ErrArg {
			t.Errorf("Undo of %d: %d", mark, e)
		}
	}
	if n := s.Mark(); n != 0 {
		t.Errorf("Mark: %d", n)
	}
}

func TestStore(t *testing.T) {
	a, b, x, y, z, w := fun("a"), fun("b"), variable(0), variable(1), variable(2), variable(3)
	s := unify.New()
	mustUnify(t, s, fun("f", x, y), fun("f", fun("g", z), z))
	if s.Mark() != 2 {
		t.Errorf("%d binds", s.Mark())
	}
	// What the store makes of the terms counts, not what they are.
	mustNotUnify(t, s, x, a)
	mustNotUnify(t, s, x, fun("g", fun("g", y)))
	mustNotUnify(t, s, y, x)
	mustNotUnify(t, s, fun("g", w, y), fun("g", a, fun("h", z)))
	mustUnify(t, s, x, fun("g", y))
	if s.Mark() != 2 {
		t.Errorf("%d binds", s.Mark())
	}
	mustUnify(t, s, x, fun("g", b))
	if s.Mark() != 3 {
		t.Errorf("%d binds", s.Mark())
	}
	checkValue(t, s, fun("p", x, y, z, w, a, number(2), fun("_0")), fun("p", fun("g", b), b, b, w, a, number(2), fun("_0")))
	mustNotUnify(t, s, y, a)
	mustUnify(t, s, twice(w), fun("f", y, z))
	checkValue(t, s, w, b)
	if s.Mark() != 4 {
		t.Errorf("%d binds", s.Mark())
	}
}

func TestStoreWithWrongTerms(t *testing.T) {
	s := stored(t, pair{variable(0), fun("g", variable(1))})
	for _, x := range wrongOnes() {
		for _, y := range []api.Term{fun("a"), variable(0), variable(1), variable(5), x, {}} {
			for _, p := range []pair{{x, y}, {y, x}} {
				if unified, e := s.Unify(p[0], p[1]); unified || e != api.ErrArg {
					t.Errorf("Unify of %s and %s: %v, %d", brief(p[0]), brief(p[1]), unified, e)
				}
			}
		}
		if v, e := s.Value(x); e != api.ErrArg || !alike(v, api.Term{}) {
			t.Errorf("Value of %s: %s, %d", brief(x), brief(v), e)
		}
	}
	checkValue(t, s, fun("f", variable(0), variable(1), variable(5)), fun("f", fun("g", variable(1)), variable(1), variable(5)))
	if s.Mark() != 1 {
		t.Errorf("%d binds", s.Mark())
	}
}

// What cannot be unified changes nothing, also if something in it could be.
func TestFailedUnifyChangesNothing(t *testing.T) {
	a, b, x, y, z, w := fun("a"), fun("b"), variable(0), variable(1), variable(2), variable(3)
	all := []api.Term{x, y, z, w}
	for i, l := range [][]pair{nil, {{x, y}}, {{y, fun("g", z)}}, {{y, z}, {z, a}}, {{w, fun("g", x)}}, {{x, fun("h", y, z)}, {y, a}}} {
		for k, p := range []pair{
			{fun("f", x, a), fun("f", y, b)}, {fun("f", a, x), fun("f", b, y)}, {fun("f", x, y, z, w, a), fun("f", y, z, w, x, b)}, {fun("f", z, w, x, x), fun("f", a, a, number(1), number(2))},
			{fun("f", z, x), fun("f", x, fun("g", x))}, {fun("f", x, y), fun("f", fun("g", fun("g", y)), fun("g", x))}, {fun("f", w, z, y, fun("k", x)), fun("f", x, x, x, x)}, {fun("f", x, fun("k", a, b)), fun("f", w, fun("k", a))}, {fun("f", w, w), fun("f", fun("g", x), number(3))},
		} {
			s := stored(t, l...)
			before := values(s, all)
			mustNotUnify(t, s, p[0], p[1])
			mustNotUnify(t, s, p[1], p[0])
			if s.Mark() != len(l) || !allAlike(values(s, all), before) {
				t.Errorf("%d, %d: changed", i, k)
			}
		}
	}
}

func TestValueRoom(t *testing.T) {
	a := fun("a")
	for _, leaf := range []api.Term{variable(5), number(9), a} {
		for n := 2997; n <= 3003; n++ {
			part := sized(n-2001, leaf)
			for _, l := range [][]pair{{{variable(0), part}}, {{part, variable(1)}, {variable(0), variable(1)}}, {{variable(0), variable(1)}, {part, variable(1)}}, {{fun("g", variable(0)), fun("g", part)}}} {
				s := stored(t, l...)
				checkValue(t, s, fun("f", variable(0), sized(2000, a)), fun("f", part, sized(2000, a)))
				checkValue(t, s, fun("f", sized(2000, a), variable(0)), fun("f", sized(2000, a), part))
			}
		}
		for n := 97; n <= 103; n++ {
			for _, above := range []int{5, 40, 94} {
				s := stored(t, pair{variable(0), deep(n-1-above, leaf)}, pair{variable(7), variable(0)})
				checkValue(t, s, deep(above, variable(0)), deep(n-1, leaf))
				checkValue(t, s, fun("f", a, deep(above-1, variable(7))), fun("f", a, deep(n-2, leaf)))
			}
		}
	}
	// Terms that become too large can be unified all the same.
	s := stored(t, pair{variable(0), deep(98, variable(1))}, pair{variable(1), deep(98, variable(2))}, pair{variable(3), deep(98, variable(4))})
	mustUnify(t, s, variable(0), variable(3))
	checkValue(t, s, variable(4), deep(98, variable(2)))
	checkValue(t, s, variable(3), deep(196, variable(2)))
	mustUnify(t, s, variable(2), deep(97, a))
	mustNotUnify(t, s, fun("f", variable(4)), variable(0))
	checkValue(t, s, variable(2), deep(97, a))
	checkValue(t, s, variable(4), deep(195, a))
}

// Stores know nothing of each other.
func TestTwoStores(t *testing.T) {
	x, y := variable(0), variable(1)
	one, two, three := unify.New(), unify.New(), unify.New()
	mustUnify(t, one, x, fun("a"))
	mustUnify(t, two, x, fun("g", y))
	mustUnify(t, one, y, fun("b"))
	mustUnify(t, two, y, number(4))
	if e := one.Undo(1); e != api.OK {
		t.Errorf("Undo: %d", e)
	}
	checkValue(t, one, fun("f", x, y), fun("f", fun("a"), y))
	checkValue(t, two, fun("f", x, y), fun("f", fun("g", number(4)), number(4)))
	checkValue(t, three, fun("f", x, y), fun("f", x, y))
	if one.Mark() != 1 || two.Mark() != 2 || three.Mark() != 0 {
		t.Errorf("%d, %d, %d binds", one.Mark(), two.Mark(), three.Mark())
	}
}

// P4.3: Mark and Undo.

func TestMarkAndUndo(t *testing.T) {
	a, b, x, y, z, w := fun("a"), fun("b"), variable(0), variable(1), variable(2), variable(3)
	all := fun("p", x, y, z, w)
	s := unify.New()
	mustUnify(t, s, x, fun("g", y))
	one, first := s.Mark(), fun("p", fun("g", y), y, z, w)
	mustUnify(t, s, fun("f", y, z), fun("f", fun("h", z), a))
	three, second := s.Mark(), fun("p", fun("g", fun("h", a)), fun("h", a), a, w)
	mustUnify(t, s, w, x)
	if one != 1 || three != 3 || s.Mark() != 4 {
		t.Errorf("marks: %d, %d, %d", one, three, s.Mark())
	}
	undo := func(mark int, want api.Term) {
		t.Helper()
		if e := s.Undo(mark); e != api.OK || s.Mark() != mark {
			t.Errorf("Undo of %d: %d; %d binds", mark, e, s.Mark())
		}
		checkValue(t, s, all, want)
	}
	undo(4, fun("p", fun("g", fun("h", a)), fun("h", a), a, fun("g", fun("h", a))))
	undo(three, second)
	undo(three, second)
	mustNotUnify(t, s, z, b)
	undo(one, first)
	mustUnify(t, s, z, b)
	mustUnify(t, s, w, z)
	// The mark 3 now belongs to another state than before.
	three = s.Mark()
	mustUnify(t, s, y, number(1))
	undo(three, fun("p", fun("g", y), y, b, b))
	undo(one, first)
	undo(0, all)
	mustUnify(t, s, y, x)
	mustUnify(t, s, x, number(2))
	checkValue(t, s, all, fun("p", number(2), number(2), z, w))
	undo(0, all)
}

func TestUndoBounds(t *testing.T) {
	for n := range 5 {
		s := unify.New()
		for i := range n {
			mustUnify(t, s, variable(i), fun("g", variable(i+1)))
		}
		whole := fun("f", variables(0, 6)...)
		before, e := s.Value(whole)
		if e != api.OK {
			t.Fatalf("Value: %d", e)
		}
		for _, mark := range []int{math.MinInt, math.MinInt + 1, -api.MaxVar, -2, -1, n + 1, n + 2, api.MaxVar, math.MaxInt} {
			if e := s.Undo(mark); e != api.ErrArg || s.Mark() != n {
				t.Errorf("Undo of %d: %d; %d binds, not %d", mark, e, s.Mark(), n)
			}
			checkValue(t, s, whole, before)
		}
		for mark := n; mark >= 0; mark-- {
			if e := s.Undo(mark); e != api.OK || s.Mark() != mark {
				t.Errorf("Undo of %d: %d; %d binds", mark, e, s.Mark())
			}
			if e := s.Undo(mark + 1); e != api.ErrArg || s.Mark() != mark {
				t.Errorf("Undo of %d: %d; %d binds, not %d", mark+1, e, s.Mark(), mark)
			}
		}
	}
}

// A mark that was never returned, from within one unification: nothing is promised but that the store stays one.
func TestUndoOfNoMark(t *testing.T) {
	a, b := packedPairs(append(levels(0, 10, twice), levels(20, 10, func(x api.Term) api.Term { return x })...))
	for mark := range 21 {
		s := stored(t, pair{a, b})
		if e := s.Undo(mark); e != api.OK || s.Mark() != mark {
			t.Errorf("Undo of %d: %d; %d binds", mark, e, s.Mark())
		}
		mustUnify(t, s, a, b)
		if s.Mark() != 20 {
			t.Errorf("after the mark %d: %d binds", mark, s.Mark())
		}
		if e := s.Undo(0); e != api.OK {
			t.Errorf("Undo: %d", e)
		}
		checkValue(t, s, a, a)
	}
}

// moment is a state of a store: which pairs are unified in it, and what it makes of the variables.
type moment struct {
	mark, pairs int
	values      []api.Term
}

// P4.2, P4.3: any calls, one after the other, against the words.
func TestStoreFollowsTheWords(t *testing.T) {
	r := rand.New(rand.NewSource(44))
	count := map[bool]int{}
	undone := 0
	all := variables(0, 8)
	for range 1500 {
		s := unify.New()
		var done []pair
		moments := []moment{{0, 0, all}}
		for range 3 + r.Intn(12) {
			switch r.Intn(4) {
			case 0:
				i := r.Intn(len(moments))
				moments = moments[:i+1]
				m := moments[i]
				done = done[:m.pairs]
				if e := s.Undo(m.mark); e != api.OK || s.Mark() != m.mark || !allAlike(values(s, all), m.values) {
					t.Fatalf("Undo of %d: %d; %d binds, not as before: %v", m.mark, e, s.Mark(), values(s, all))
				}
				undone++
			default:
				p := anyPair(r, 8)
				_, is := unifiedByWords(append(done, p)...)
				count[is]++
				if !is {
					mustNotUnify(t, s, p[0], p[1])
				} else {
					mustUnify(t, s, p[0], p[1])
					done = append(done, p)
				}
			}
			checkState(t, r, s, done)
			moments = append(moments, moment{s.Mark(), len(done), values(s, all)})
		}
	}
	if count[true] < 5000 || count[false] < 1000 || undone < 2000 {
		t.Errorf("too few of one kind: %v, %d", count, undone)
	}
}

// checkState tells whether the store binds a most general substitution of these pairs.
func checkState(t *testing.T, r *rand.Rand, s *unify.Store, done []pair) {
	t.Helper()
	all := variables(0, 8)
	want, is := unifiedByWords(done...)
	got := values(s, all)
	if !is || s.Mark() != len(want) || !allAlike(together(got), renumbered(want, all)) {
		t.Fatalf("%d binds, %v; not %v", s.Mark(), got, want)
	}
	for _, p := range done {
		v, e := s.Value(p[0])
		w, f := s.Value(p[1])
		if e != api.OK || f != api.OK || !alike(v, w) {
			t.Fatalf("%s and %s were unified, and are %s, %d and %s, %d", brief(p[0]), brief(p[1]), brief(v), e, brief(w), f)
		}
	}
	var flat []api.Bind
	for i, v := range all {
		if !alike(v, got[i]) {
			flat = append(flat, bind(v.N, got[i]))
		}
	}
	x := sample.AnyTerm(r.Intn, 8, 3)
	checkValue(t, s, x, becomes(flat, x))
}

// P4.4.

func TestUnifyAgainChangesNothing(t *testing.T) {
	r := rand.New(rand.NewSource(45))
	all := variables(0, 9)
	found := 0
	for range 3000 {
		s := unify.New()
		var done []pair
		for _, p := range anyPairs(r, 6, 9) {
			if unified, _ := s.Unify(p[0], p[1]); unified {
				done = append(done, p)
			}
		}
		found += len(done)
		mark, before := s.Mark(), values(s, all)
		for _, p := range append(done, reversed(done)...) {
			mustUnify(t, s, p[0], p[1])
			v, e := s.Value(p[0])
			w, f := s.Value(p[1])
			if e != api.OK || f != api.OK || !alike(v, w) {
				t.Fatalf("%s and %s become %s, %d and %s, %d", brief(p[0]), brief(p[1]), brief(v), e, brief(w), f)
			}
			mustUnify(t, s, v, w)
			mustUnify(t, s, p[0], w)
		}
		if s.Mark() != mark || !allAlike(values(s, all), before) {
			t.Fatalf("%d binds, not %d", s.Mark(), mark)
		}
	}
	if found < 8000 {
		t.Errorf("only %d pairs were unified", found)
	}
}

// However the same terms come to be unified: whether they can be, and what becomes of them, is the same.
func TestOrderMakesNoDifference(t *testing.T) {
	r := rand.New(rand.NewSource(46))
	all := variables(0, 9)
	count := map[bool]int{}
	for range 3000 {
		l := anyPairs(r, 2+r.Intn(4), 9)
		a, b := packedPairs(l)
		whole := unify.New()
		is, _ := whole.Unify(a, b)
		count[is]++
		for range 5 {
			s := unify.New()
			unified := true
			for _, p := range shuffled(r, l) {
				one, e := s.Unify(p[0], p[1])
				unified = unified && one && e == api.OK
			}
			if unified != is || is && (s.Mark() != whole.Mark() || !allAlike(together(values(s, all)), together(values(whole, all)))) {
				t.Fatalf("%v: %v, not %v; %d binds, not %d", l, unified, is, s.Mark(), whole.Mark())
			}
		}
	}
	if count[true] < 300 || count[false] < 300 {
		t.Errorf("too few of one kind: %v", count)
	}
}

// A variable that is bound does not become another one's number again.
func TestValueHasNoBoundVariable(t *testing.T) {
	r := rand.New(rand.NewSource(47))
	for range 1000 {
		s := unify.New()
		for _, p := range anyPairs(r, 4, 9) {
			s.Unify(p[0], p[1])
		}
		bound := 0
		free := map[int]bool{}
		for _, v := range variables(0, 9) {
			x, e := s.Value(v)
			if e != api.OK {
				t.Fatalf("Value: %d", e)
			}
			if !alike(x, v) {
				bound++
			}
			for _, w := range term.Vars([]api.Term{x}) {
				free[w] = true
			}
			if again, e := s.Value(x); e != api.OK || !alike(again, x) {
				t.Fatalf("%s becomes %s, %d", brief(x), brief(again), e)
			}
		}
		if bound != s.Mark() || len(free) != 9-bound {
			t.Fatalf("%d variables are bound, %d are not; Mark: %d", bound, len(free), s.Mark())
		}
	}
}
