package unify_test

import (
	"math/rand"
	"slices"
	"testing"

	"finial/api"
	"finial/sample"
	"finial/unify"
)

// P0, for the calls of this package: the rules R1 to R5.

// R1: every call returns, and none panics; R2: with an error the other results are zero.
func TestCallsReturn(t *testing.T) {
	s := stored(t, pair{variable(0), fun("g", variable(1))})
	for _, x := range odd() {
		for _, p := range []pair{{x, fun("a")}, {variable(0), x}, {x, variable(1)}, {x, x}, {fun("f", x), fun("f", variable(3))}} {
			if l, unified, e := unify.Mgu(p[0], p[1]); e != api.ErrArg || unified || len(l) != 0 {
				t.Errorf("Mgu of %s and %s: %d binds, %v, %d", brief(p[0]), brief(p[1]), len(l), unified, e)
			}
			if unified, e := s.Unify(p[0], p[1]); e != api.ErrArg || unified || s.Mark() != 1 {
				t.Errorf("Unify of %s and %s: %v, %d; %d binds", brief(p[0]), brief(p[1]), unified, e, s.Mark())
			}
		}
		if v, e := s.Value(x); e != api.ErrArg || !alike(v, api.Term{}) {
			t.Errorf("Value of %s: %s, %d", brief(x), brief(v), e)
		}
	}
}

// R1: a store that does not come from New is not asked for, but no call panics with it.
func TestZeroStore(t *testing.T) {
	var s unify.Store
	checkValue(t, &s, variable(0), variable(0))
	mustUnify(t, &s, twice(variable(0)), fun("f", variable(1), fun("a")))
	checkValue(t, &s, variable(0), fun("a"))
	if e := s.Undo(0); e != api.OK || s.Mark() != 0 {
		t.Errorf("Undo: %d; %d binds", e, s.Mark())
	}
}

// R1: a term whose parts are shared can be larger than its memory.
func TestSharedParts(t *testing.T) {
	big := variable(1)
	for range 60 {
		big = twice(big)
	}
	s := unify.New()
	for _, p := range []pair{{big, big}, {variable(0), big}, {big, fun("a")}} {
		if l, unified, e := unify.Mgu(p[0], p[1]); e != api.ErrArg || unified || len(l) != 0 {
			t.Errorf("Mgu: %d binds, %v, %d", len(l), unified, e)
		}
		if unified, e := s.Unify(p[0], p[1]); e != api.ErrArg || unified {
			t.Errorf("Unify: %v, %d", unified, e)
		}
	}
	if _, e := s.Value(big); e != api.ErrArg {
		t.Errorf("Value: %d", e)
	}
}

// R3: a nil list and an empty one are the same.
func TestNilAndEmpty(t *testing.T) {
	for _, x := range []api.Term{variable(3), number(3), fun("a")} {
		y := x
		y.Args = []api.Term{}
		for _, p := range []pair{{x, y}, {y, x}, {fun("f", x), fun("f", y)}, {fun("f", y, x), fun("f", x, y)}} {
			if l, unified, e := unify.Mgu(p[0], p[1]); e != api.OK || !unified || len(l) != 0 {
				t.Errorf("Mgu of %s with nil and with empty Args: %v, %v, %d", brief(x), l, unified, e)
			}
			mustUnify(t, unify.New(), p[0], p[1])
		}
		for _, z := range []api.Term{x, y} {
			s := stored(t, pair{variable(5), fun("g", z)})
			checkValue(t, s, fun("f", variable(5), y), fun("f", fun("g", x), x))
			if l, unified, e := unify.Mgu(variable(7), fun("g", z)); e != api.OK || !unified || !alikeBinds(l, []api.Bind{bind(7, fun("g", x))}) {
				t.Errorf("Mgu: %v, %v, %d", l, unified, e)
			}
		}
	}
}

// R3: arguments are not changed, nor what lies behind a list in its memory.
func TestArgumentsStay(t *testing.T) {
	r := rand.New(rand.NewSource(48))
	for range 500 {
		s := unify.New()
		var behind [][]api.Term
		for range 4 {
			p := anyPair(r, 6)
			args := append(make([]api.Term, 0, 5), p[0], p[1], variable(0))
			behind = append(behind, append(args, fun("behind")), []api.Term{p[0], p[1]})
			before := []api.Term{apart(p[0]), apart(p[1]), variable(0), fun("behind")}
			x := fun("f", args...)
			unify.Mgu(p[0], p[1])
			unify.Mgu(x, fun("f", variable(0), variable(1), variable(2)))
			s.Unify(p[0], p[1])
			mark := s.Mark()
			s.Unify(fun("f", variable(1), variable(2), variable(3)), x)
			s.Value(x)
			s.Undo(mark)
			s.Unify(x, x)
			if l := behind[len(behind)-2]; !allAlike(l, before) || !allAlike(behind[len(behind)-1], before[:2]) {
				t.Fatalf("changed: %v, not %v", l, before)
			}
		}
	}
}

// R3: what one call has returned is not changed by later ones.
func TestResultsStay(t *testing.T) {
	a, x, y, z := fun("a"), variable(0), variable(1), variable(2)
	s := stored(t, pair{x, fun("f", y, z)}, pair{y, fun("g", z)})
	value, _ := s.Value(fun("p", x, y, variable(5)))
	l, _, _ := unify.Mgu(fun("f", x, y), fun("f", fun("g", y), fun("h", z)))
	kept := sample.ApartBinds(l)
	want := apart(value)
	mark := s.Mark()
	r := rand.New(rand.NewSource(49))
	for range 200 {
		s.Unify(z, a)
		s.Unify(value, fun("p", variable(7), variable(8), a))
		for _, b := range l {
			s.Unify(variable(b.V), b.T)
		}
		s.Value(value)
		s.Undo(mark)
		p := anyPair(r, 6)
		unify.Mgu(p[0], p[1])
		unify.Mgu(value, p[0])
		s.Unify(p[0], p[1])
		s.Undo(0)
		s.Unify(p[1], fun("f", value))
		s.Undo(0)
		mark = 0
	}
	if !alike(value, want) || !alike(want, fun("p", fun("f", fun("g", z), z), fun("g", z), variable(5))) || !alikeBinds(l, kept) {
		t.Errorf("changed: %s, %v", brief(value), l)
	}
}

// What is returned shares no memory with the arguments, nor with the store, nor do its parts with each other.
func TestResultsShareNothing(t *testing.T) {
	part := fun("g", fun("h", number(1)), variable(7))
	a, b := fun("p", part, part, variable(2), part), fun("p", variable(0), variable(1), fun("k", part, variable(0)), variable(5))
	before := []api.Term{apart(a), apart(b)}
	want, unified, e := unify.Mgu(a, b)
	if e != api.OK || !unified || len(want) != 4 {
		t.Fatalf("Mgu: %v, %v, %d", want, unified, e)
	}
	want = sample.ApartBinds(want)
	for i := range want {
		l, _, _ := unify.Mgu(a, b)
		sample.Overwrite(l[i].T)
		l[i] = want[i]
		if !alikeBinds(l, want) || !allAlike([]api.Term{a, b}, before) {
			t.Errorf("Mgu: shared: the bind %d", i)
		}
	}
	s := stored(t, pair{a, b}, pair{variable(9), part})
	x := fun("q", part, variable(0), variable(1), variable(2), variable(5), variable(0), variable(9))
	whole, was := values(s, []api.Term{x})[0], apart(x)
	whole = apart(whole)
	for i := range whole.Args {
		v, e := s.Value(x)
		if e != api.OK || !alike(v, whole) {
			t.Fatalf("Value: %s, %d", brief(v), e)
		}
		sample.Overwrite(v.Args[i])
		v.Args[i] = whole.Args[i]
		if again, e := s.Value(x); e != api.OK || !alike(v, whole) || !alike(again, whole) || !alike(x, was) || !allAlike([]api.Term{a, b}, before) {
			t.Errorf("Value: shared: the Arg %d", i)
		}
	}
}

// R4: results depend on the arguments alone: neither on what was asked before, nor on the order of a map.
func TestSameResultsAgain(t *testing.T) {
	r := rand.New(rand.NewSource(50))
	var l []pair
	for i := range 300 {
		l = append(l, pair{variable(i), fun("f", variable(300+(i*7)%90), variable(300+(i*13)%90))}, pair{variable(600 + i), variable(500 + (i*11)%90)})
	}
	a, b := packedPairs(l)
	binds, unified, e := unify.Mgu(a, b)
	if e != api.OK || !unified {
		t.Fatalf("Mgu: %v, %d", unified, e)
	}
	whole := packed(variables(0, 1000))
	want, e := stored(t, l...).Value(whole)
	if e != api.OK {
		t.Fatalf("Value: %d", e)
	}
	for range 30 {
		p := anyPair(r, 6)
		unify.Mgu(p[0], p[1])
		if got, _, e := unify.Mgu(a, b); e != api.OK || !alikeBinds(got, binds) {
			t.Fatal("another result of Mgu")
		}
		s := unify.New()
		for _, q := range l {
			// What is undone, or is unified already, or cannot be, is of no account.
			mark := s.Mark()
			s.Unify(p[0], q[0])
			s.Undo(mark)
			mustUnify(t, s, q[0], q[1])
			s.Unify(q[0], q[1])
			s.Unify(fun("f", variable(1001), variable(1002), fun("a")), fun("f", q[0], variable(1001), fun("b")))
		}
		if got, e := s.Value(whole); e != api.OK || !alike(got, want) {
			t.Fatal("another result of Value")
		}
	}
}

// R5: variables are counted from 0, and told apart by number.
func TestVariablesByNumber(t *testing.T) {
	vars := []int{0, 1, 9, 10, 11, 100, 999998, 999999}
	s := unify.New()
	var args []api.Term
	for _, v := range vars {
		mustUnify(t, s, variable(v), number(v))
		args = append(args, variable(v))
	}
	for i, v := range vars {
		checkValue(t, s, variable(v), number(v))
		others := slices.Delete(slices.Clone(vars), i, i+1)
		s := unify.New()
		for _, w := range others {
			mustUnify(t, s, number(w), variable(w))
		}
		checkValue(t, s, variable(v), variable(v))
		l, unified, e := unify.Mgu(fun("f", args...), fun("f", times(len(args), number(v))...))
		if e != api.OK || !unified || len(l) != len(vars) || !slices.ContainsFunc(l, func(b api.Bind) bool { return b.V == v }) {
			t.Errorf("Mgu: %v, %v, %d", l, unified, e)
		}
	}
	for _, v := range []int{-1, api.MaxVar, api.MaxVar + 1} {
		if unified, e := s.Unify(variable(v), fun("a")); unified || e != api.ErrArg {
			t.Errorf("Unify of the variable %d: %v, %d", v, unified, e)
		}
		if _, e := s.Value(variable(v)); e != api.ErrArg {
			t.Errorf("Value of the variable %d: %d", v, e)
		}
	}
}
