package subst_test

import (
	"math"
	"math/rand"
	"slices"
	"testing"

	"finial/api"
	"finial/sample"
	"finial/subst"
)

// P0, for the calls of this package: the rules R1 to R5.

// R1: every call returns, and none panics; R2: with an error the other results are zero.
func TestCallsReturn(t *testing.T) {
	var all []api.Bind
	for i, x := range odd() {
		all = append(all, bind(i%7-3, x))
		for _, v := range []int{math.MinInt, -1, 0, 1, api.MaxVar, math.MaxInt} {
			for _, l := range [][]api.Bind{{bind(v, x)}, {bind(0, variable(1)), bind(v, x)}, {bind(v, x), bind(v, x), bind(1, variable(0))}} {
				if subst.Right(l) {
					t.Errorf("right: %d and %s", v, brief(x))
				}
				subst.Find(l, v)
				if y, e := subst.Apply(l, fun("f", variable(0), variable(1))); e != api.ErrArg || !alike(y, api.Term{}) {
					t.Errorf("Apply of %d and %s: %s, %d", v, brief(x), brief(y), e)
				}
				if m, e := subst.Flat(l); e != api.ErrArg || len(m) != 0 {
					t.Errorf("Flat of %d and %s: %d binds, %d", v, brief(x), len(m), e)
				}
			}
		}
		if y, e := subst.Apply(binds(fun("a"), number(2)), x); e != api.ErrArg || !alike(y, api.Term{}) {
			t.Errorf("Apply to %s: %s, %d", brief(x), brief(y), e)
		}
	}
	for _, v := range []int{-3, 0, 3, 4} {
		subst.Find(all, v)
	}
	if m, e := subst.Flat(all); subst.Right(all) || e != api.ErrArg || len(m) != 0 {
		t.Errorf("Flat: %d binds, %d", len(m), e)
	}
}

// R1: a term whose parts are shared can be larger than its memory.
func TestSharedParts(t *testing.T) {
	x := balanced(60, variable(1))
	l := binds(x)
	if subst.Right(l) {
		t.Error("right")
	}
	if _, e := subst.Apply(l, fun("a")); e != api.ErrArg {
		t.Errorf("Apply: %d", e)
	}
	if _, e := subst.Apply(nil, x); e != api.ErrArg {
		t.Errorf("Apply: %d", e)
	}
	if _, e := subst.Flat(l); e != api.ErrArg {
		t.Errorf("Flat: %d", e)
	}
}

// R3: a nil list and an empty one are the same.
func TestNilAndEmpty(t *testing.T) {
	if !subst.Right(nil) || !subst.Right([]api.Bind{}) {
		t.Error("Right of no binds")
	}
	for _, x := range []api.Term{variable(3), number(3), fun("a")} {
		y := x
		y.Args = []api.Term{}
		for _, l := range [][]api.Bind{nil, {}} {
			if got, e := subst.Apply(l, y); e != api.OK || !alike(got, x) {
				t.Errorf("Apply of no binds to %s: %s, %d", brief(x), brief(got), e)
			}
			if got, e := subst.Flat(l); e != api.OK || len(got) != 0 {
				t.Errorf("Flat of no binds: %v, %d", got, e)
			}
		}
		for _, c := range [][2]api.Term{{x, y}, {fun("f", x), fun("f", y)}} {
			for _, at := range c {
				l := []api.Bind{bind(0, fun("g", variable(1))), bind(1, at)}
				if got, is := subst.Find(l, 1); !is || !alike(got, c[0]) || !subst.Right(l) {
					t.Errorf("Find: %s, %v; Right: %v", brief(got), is, subst.Right(l))
				}
				if got, e := subst.Apply(l, fun("f", variable(0), y)); e != api.OK || !alike(got, fun("f", fun("g", c[0]), x)) {
					t.Errorf("Apply: %s, %d", brief(got), e)
				}
				if got, e := subst.Flat(l); e != api.OK || !alikeBinds(got, binds(fun("g", c[0]), c[0])) {
					t.Errorf("Flat: %v, %d", got, e)
				}
			}
		}
	}
}

// R3: arguments are not changed, nor what lies behind a list in its memory.
func TestArgumentsStay(t *testing.T) {
	for i, l := range slices.Concat(rightBinds(), wrongBinds()) {
		whole := append(slices.Clone(l), bind(77, fun("behind")), bind(78, fun("behind", number(4))))
		l := whole[:len(whole)-2]
		before := apartBinds(whole)
		args := append(make([]api.Term, 0, 4), variable(0), fun("g", variable(0), number(1)))
		behind := append(args, fun("behind"))
		x := fun("f", args...)
		subst.Right(l)
		subst.Find(l, 0)
		subst.Apply(l, x)
		subst.Apply(l, variable(0))
		subst.Flat(l)
		if !alikeBinds(whole, before) {
			t.Errorf("%d: changed", i)
		}
		if !sample.AllAlike(behind, []api.Term{variable(0), fun("g", variable(0), number(1)), fun("behind")}) {
			t.Errorf("%d: changed: %s", i, brief(fun("f", behind...)))
		}
	}
}

// R3: what one call has returned is not changed by later ones.
func TestResultsStay(t *testing.T) {
	l := binds(fun("f", variable(1), variable(2)), fun("g", variable(2)), fun("h", variable(3)))
	found, _ := subst.Find(l, 0)
	applied, _ := subst.Apply(l, fun("p", variable(0), variable(5)))
	flat, _ := subst.Flat(l)
	r := rand.New(rand.NewSource(37))
	for range 200 {
		m := anyBinds(r)
		subst.Find(m, 0)
		subst.Apply(m, found)
		subst.Apply(m, applied)
		subst.Flat(m)
		subst.Apply(flat, applied)
		subst.Flat(flat)
	}
	h := fun("h", variable(3))
	if !alike(found, fun("f", variable(1), variable(2))) || !alike(applied, fun("p", fun("f", fun("g", h), h), variable(5))) || !alikeBinds(flat, binds(fun("f", fun("g", h), h), fun("g", h), h)) {
		t.Errorf("changed: %s, %s, %v", brief(found), brief(applied), flat)
	}
}

// What is returned shares no memory with the arguments, nor do its parts with each other.
func TestResultsShareNothing(t *testing.T) {
	part := fun("g", fun("h", number(1)), variable(7))
	l := binds(part, variable(0), fun("f", variable(0), variable(1)), variable(2))
	before := apartBinds(l)
	x := fun("p", variable(2), part, variable(0), variable(0), variable(3))
	was := apart(x)
	want := apart(fun("p", fun("f", part, part), part, part, part, fun("f", part, part)))
	flattened := apartBinds(binds(part, part, fun("f", part, part), fun("f", part, part)))
	for i := range want.Args {
		got, e := subst.Apply(l, x)
		if e != api.OK || !alike(got, want) {
			t.Fatalf("Apply: %s, %d", brief(got), e)
		}
		sample.Overwrite(got.Args[i])
		got.Args[i] = want.Args[i]
		if !alike(got, want) || !alike(x, was) || !alikeBinds(l, before) {
			t.Errorf("Apply: shared: the Arg %d", i)
		}
	}
	for i := range flattened {
		got, e := subst.Flat(l)
		if e != api.OK || !alikeBinds(got, flattened) {
			t.Fatalf("Flat: %v, %d", got, e)
		}
		sample.Overwrite(got[i].T)
		got[i] = flattened[i]
		if !alikeBinds(got, flattened) || !alikeBinds(l, before) {
			t.Errorf("Flat: shared: the bind %d", i)
		}
	}
	found, _ := subst.Find(l, 0)
	sample.Overwrite(found)
	if !alikeBinds(l, before) {
		t.Error("Find: shared")
	}
}

// R4: results depend on the arguments alone: neither on what was asked before, nor on the order of a map.
func TestSameResultsAgain(t *testing.T) {
	l := append(steps(8, twice), steps(900, next)[100:]...)
	for i := range 300 {
		l = append(l, bind(2000+i, fun("f", variable(2000+(i*7+1)%300/2+400), variable(i))))
	}
	if !subst.Right(l) {
		t.Fatal("not right")
	}
	x := fun("f", variable(0), variable(100), variable(2017), variable(2100))
	applied, e := subst.Apply(l, x)
	flat, f := subst.Flat(l)
	if e != api.OK || f != api.OK {
		t.Fatalf("Apply: %d, Flat: %d", e, f)
	}
	for range 30 {
		subst.Apply(binds(variable(0)), x)
		subst.Apply(steps(60, twice), x)
		if got, e := subst.Apply(l, x); e != api.OK || !alike(got, applied) {
			t.Fatal("another result of Apply")
		}
		if got, e := subst.Flat(l); e != api.OK || !alikeBinds(got, flat) {
			t.Fatal("another result of Flat")
		}
	}
	// What a term becomes does not depend on the order of the binds either.
	for seed := range 30 {
		m := shuffled(l, int64(seed))
		if got, e := subst.Apply(m, x); e != api.OK || !alike(got, applied) {
			t.Fatal("another result of Apply for the same binds")
		}
		got, e := subst.Flat(m)
		if e != api.OK || !alikeBinds(got, inOrderOf(m, flat)) {
			t.Fatal("another result of Flat for the same binds")
		}
	}
}

// inOrderOf returns the binds of flat in the order of those of l.
func inOrderOf(l, flat []api.Bind) []api.Bind {
	var m []api.Bind
	for _, b := range l {
		m = append(m, flat[slices.IndexFunc(flat, func(c api.Bind) bool { return c.V == b.V })])
	}
	return m
}

// R5: variables are counted from 0, and told apart by number.
func TestVariablesByNumber(t *testing.T) {
	vars := []int{0, 1, 9, 10, 11, 100, 999998, 999999}
	var l []api.Bind
	for _, v := range vars {
		l = append(l, bind(v, number(v)))
	}
	for i, v := range vars {
		if got, is := subst.Find(l, v); !is || !alike(got, number(v)) {
			t.Errorf("Find of %d: %s, %v", v, brief(got), is)
		}
		if got, e := subst.Apply(l, variable(v)); e != api.OK || !alike(got, number(v)) {
			t.Errorf("Apply to the variable %d: %s, %d", v, brief(got), e)
		}
		others := slices.Delete(slices.Clone(l), i, i+1)
		if got, is := subst.Find(others, v); is || !alike(got, api.Term{}) {
			t.Errorf("Find of %d: %s, %v", v, brief(got), is)
		}
		if got, e := subst.Apply(others, variable(v)); e != api.OK || !alike(got, variable(v)) {
			t.Errorf("Apply to the variable %d: %s, %d", v, brief(got), e)
		}
	}
}
