package match_test

import (
	"math"
	"math/rand"
	"slices"
	"testing"

	"finial/api"
	"finial/match"
	"finial/sample"
)

// P0, for the calls of this package: the rules R1 to R5.

// R1: every call returns, and none panics; R2: with an error the other results are zero.
func TestCallsReturn(t *testing.T) {
	for _, x := range odd() {
		for _, y := range []api.Term{fun("a"), variable(0), fun("f", variable(1), variable(0))} {
			checkRefused(t, x, y)
			checkRefused(t, y, x)
			checkFillFails(t, x, binds(y), api.ErrArg)
			for _, v := range []int{math.MinInt, -1, 0, 1, api.MaxVar, math.MaxInt} {
				checkFillFails(t, y, []api.Bind{bind(v, x)}, api.ErrArg)
				checkFillFails(t, y, []api.Bind{bind(2, y), bind(v, x), bind(v, x)}, api.ErrArg)
			}
		}
		checkRefused(t, x, x)
	}
	checkFillFails(t, fun("a"), binds(odd()...), api.ErrArg)
}

// R1: a term whose parts are shared can be larger than its memory.
func TestSharedParts(t *testing.T) {
	big := variable(1)
	for range 60 {
		big = twice(big)
	}
	for _, x := range []api.Term{fun("a"), variable(1), big} {
		checkRefused(t, big, x)
		checkRefused(t, x, big)
		checkFillFails(t, x, []api.Bind{bind(1, big)}, api.ErrArg)
		checkFillFails(t, big, []api.Bind{bind(1, x)}, api.ErrArg)
	}
	// A valid one: its parts count at each of their places.
	part := variable(0)
	for range 10 {
		part = twice(part)
	}
	checkWanted(t, part, filledByWords(part, binds(fun("a"))), binds(fun("a")), true)
	checkFill(t, fun("g", part), binds(number(1)), fun("g", filledByWords(part, binds(number(1)))))
	checkFillFails(t, twice(variable(0)), binds(part), api.ErrLarge)
	checkFillFails(t, part, binds(twice(fun("a"))), api.ErrLarge)
}

// R1: a term that is its own Arg.
func TestEndlessTerms(t *testing.T) {
	args := make([]api.Term, 1)
	args[0] = fun("f", args...)
	endless := args[0]
	for _, x := range []api.Term{fun("a"), variable(0), fun("f", variable(0)), endless} {
		for _, c := range [][2]api.Term{{x, endless}, {endless, x}} {
			if l, is, e := match.Match(c[0], c[1]); e != api.ErrArg || is || len(l) != 0 || match.Instance(c[0], c[1]) {
				t.Errorf("Match: %d binds, %v, %d", len(l), is, e)
			}
			if _, e := match.Fill(c[0], binds(c[1])); e != api.ErrArg {
				t.Errorf("Fill: %d", e)
			}
		}
	}
}

// R3: a nil list and an empty one are the same.
func TestNilAndEmpty(t *testing.T) {
	for _, x := range []api.Term{variable(3), number(3), fun("a")} {
		y := x
		y.Args = []api.Term{}
		for _, c := range [][2]api.Term{{x, y}, {y, x}, {y, y}} {
			p, q := c[0], c[1]
			checkMatch(t, p, q)
			checkMatch(t, fun("f", p, q), fun("f", q, p))
			checkWanted(t, twice(variable(0)), fun("f", p, q), binds(x), true)
			checkWanted(t, fun("g", p, variable(0)), fun("g", q, fun("h", q)), append(valuesOf(p, x), bind(0, fun("h", x))), true)
			checkFill(t, fun("f", p, variable(0)), binds(q), fun("f", x, x))
		}
		for _, l := range [][]api.Bind{nil, {}} {
			checkFill(t, y, l, x)
			checkFill(t, fun("f", y, x), l, twice(x))
		}
	}
}

// valuesOf binds the pattern to x if it is a variable.
func valuesOf(pattern, x api.Term) []api.Bind {
	if pattern.Kind != api.Var {
		return nil
	}
	return []api.Bind{bind(pattern.N, x)}
}

// R3: arguments are not changed, nor what lies behind a list in its memory.
func TestArgumentsStay(t *testing.T) {
	r := rand.New(rand.NewSource(57))
	lists := append(wrongValues()[:60], nil)
	for range 200 {
		lists = append(lists, anyValues(r, 4))
	}
	for _, l := range lists {
		pattern := anyPattern(r.Intn, 4)
		whole := append(slices.Clone(l), bind(77, fun("behind")), bind(78, fun("behind", number(4))))
		l := whole[:len(whole)-2]
		before := apartBinds(whole)
		args := append(make([]api.Term, 0, 5), pattern, filledByWords(pattern, anyValues(r, 4)), fun("g", variable(0)))
		behind := append(args, fun("behind"))
		was := apart(fun("f", behind...))
		x := fun("f", args...)
		match.Match(args[0], args[1])
		match.Match(fun("f", variables(0, 3)...), x)
		match.Match(x, x)
		match.Instance(args[1], args[0])
		match.Instance(x, fun("f", variables(0, 3)...))
		match.Fill(x, l)
		match.Fill(args[0], l)
		match.Fill(variable(0), []api.Bind{bind(0, x)})
		if !alikeBinds(whole, before) || !sample.AllAlike(behind, was.Args) {
			t.Errorf("changed: %s, %s", briefBinds(whole), brief(fun("f", behind...)))
		}
	}
}

// R3: what one call has returned is not changed by later ones.
func TestResultsStay(t *testing.T) {
	r := rand.New(rand.NewSource(58))
	pattern, x := fun("f", variable(1), fun("g", variable(0)), variable(2)), fun("f", fun("h", variable(5), number(1)), fun("g", fun("a")), variable(2))
	l, _, _ := match.Match(pattern, x)
	filled, _ := match.Fill(pattern, l)
	for range 200 {
		p := anyPattern(r.Intn, 4)
		m := anyValues(r, 4)
		match.Match(p, filledByWords(p, m))
		match.Match(pattern, filled)
		match.Match(filled, x)
		match.Fill(filled, l)
		match.Fill(p, l)
		match.Fill(filled, m)
		match.Instance(filled, pattern)
	}
	if !alikeBinds(l, []api.Bind{bind(1, fun("h", variable(5), number(1))), bind(0, fun("a")), bind(2, variable(2))}) || !alike(filled, x) {
		t.Errorf("changed: %s, %s", briefBinds(l), brief(filled))
	}
}

// What is returned shares no memory with the arguments, nor do its parts with each other.
func TestResultsShareNothing(t *testing.T) {
	part := fun("g", fun("h", number(1)), variable(7))
	pattern := fun("p", variable(0), variable(1), fun("k", variable(1), variable(2)), variable(0), part)
	x := fun("p", part, part, fun("k", part, fun("k", part)), part, part)
	before := []api.Term{apart(pattern), apart(x)}
	want := apartBinds([]api.Bind{bind(0, part), bind(1, part), bind(2, fun("k", part)), bind(7, variable(7))})
	for i := range want {
		l, is, e := match.Match(pattern, x)
		if e != api.OK || !is || !alikeBinds(l, want) {
			t.Fatalf("Match: %s, %v, %d", briefBinds(l), is, e)
		}
		sample.Overwrite(l[i].T)
		l[i] = want[i]
		if !alikeBinds(l, want) || !sample.AllAlike([]api.Term{pattern, x}, before) {
			t.Errorf("Match: shared: the bind %d", i)
		}
	}
	values := []api.Bind{bind(0, part), bind(1, part), bind(2, fun("k", part))}
	kept, whole := apartBinds(values), apart(x)
	for i := range whole.Args {
		filled, e := match.Fill(pattern, values)
		if e != api.OK || !alike(filled, whole) {
			t.Fatalf("Fill: %s, %d", brief(filled), e)
		}
		sample.Overwrite(filled.Args[i])
		filled.Args[i] = whole.Args[i]
		if !alike(filled, whole) || !alikeBinds(values, kept) || !alike(pattern, before[0]) {
			t.Errorf("Fill: shared: the Arg %d", i)
		}
	}
	alone, _ := match.Fill(variable(0), values)
	sample.Overwrite(alone)
	same, _ := match.Fill(part, nil)
	sample.Overwrite(same)
	if !alikeBinds(values, kept) {
		t.Error("Fill: shared: the whole")
	}
}

// R4: results depend on the arguments alone: neither on what was asked before, nor on the order of a map.
func TestSameResultsAgain(t *testing.T) {
	r := rand.New(rand.NewSource(59))
	pattern := numbered(sized(900, variable(0)), 100)
	var values []api.Bind
	for i := range 900 {
		values = append(values, bind(100+(i*7)%900, fun("g", variable(i), number(i))))
	}
	filled, e := match.Fill(pattern, values)
	l, is, f := match.Match(pattern, filled)
	if e != api.OK || f != api.OK || !is || len(l) < 500 {
		t.Fatalf("Fill: %d; Match: %d binds, %v, %d", e, len(l), is, f)
	}
	for range 30 {
		match.Match(pattern, api.Term{})
		match.Fill(pattern, wrongValues()[0])
		match.Match(anyPattern(r.Intn, 4), filled)
		if again, is, e := match.Match(pattern, filled); e != api.OK || !is || !alikeBinds(again, l) {
			t.Fatal("another result of Match")
		}
		r.Shuffle(len(values), func(i, j int) { values[i], values[j] = values[j], values[i] })
		if again, e := match.Fill(pattern, values); e != api.OK || !alike(again, filled) {
			t.Fatal("another result of Fill")
		}
		if !match.Instance(filled, pattern) || match.Instance(pattern, filled) {
			t.Fatal("another result of Instance")
		}
	}
}

// R5: variables are counted from 0, and told apart by number.
func TestVariablesByNumber(t *testing.T) {
	vars := []int{0, 1, 9, 10, 11, 100, 999998, 999999}
	var args, numbers []api.Term
	var l []api.Bind
	for _, v := range vars {
		args, numbers, l = append(args, variable(v)), append(numbers, number(v)), append(l, bind(v, number(v)))
	}
	checkWanted(t, fun("f", args...), fun("f", numbers...), l, true)
	checkFill(t, fun("f", args...), l, fun("f", numbers...))
	for i, v := range vars {
		others := slices.Delete(slices.Clone(l), i, i+1)
		checkFill(t, variable(v), others, variable(v))
		checkFill(t, variable(v), l, number(v))
		for _, w := range vars {
			if v != w {
				checkWanted(t, fun("f", variable(v), variable(w)), fun("f", fun("a"), fun("b")), []api.Bind{bind(v, fun("a")), bind(w, fun("b"))}, true)
			}
		}
	}
}
