package prog_test

import (
	"math/rand"
	"slices"
	"strings"
	"testing"

	"finial/api"
	"finial/sample"
)

// P11.2: There and Check.

// facts returns n clauses without goals, of different predicates.
func facts(n int) []api.Clause {
	var l []api.Clause
	for i := range n {
		l = append(l, clause(fun("p", sample.Times(i%9, number(i))...), 0))
	}
	return l
}

func TestThere(t *testing.T) {
	p := program(clause(fun("a"), 0), clause(fun("p", variable(0)), 1), clause(fun("p", number(1), number(2)), 0))
	missing := []api.Goal{b, call(fun("a", number(1))), call(fun("p")), call(fun("p", sample.Times(3, number(1))...)), call(fun("P", number(1))), call(fun("p ", number(1))), call(fun("=", number(1), number(1))), call(fun("true"))}
	present := []api.Goal{a, call(fun("p", fun("b"))), call(fun("p", fun("b"), fun("b"))), failing, does(fun("write", fun("b"))), cut(), not(), ifs(none, none, none), not(a), ifs(goals(a), goals(failing), goals(not(a)))}
	checkThere(t, nil, p, true)
	checkThere(t, nil, api.Prog{}, true)
	checkThere(t, present, p, true)
	for _, g := range present {
		checkThere(t, goals(g), p, true)
		checkThere(t, goals(g), api.Prog{}, thereByWords(goals(g), api.Prog{}))
	}
	for _, g := range missing {
		for _, l := range [][]api.Goal{{g}, {a, g}, {g, a}, {not(g)}, {not(a, g, a)}, {ifs(goals(a, g), none, none)}, {ifs(none, goals(g, a), none)}, {ifs(none, none, goals(a, g))}, {not(not(ifs(none, goals(not(g)), none)))}} {
			checkThere(t, l, p, false)
			checkThere(t, l, program(clause(g.T, 0), clause(fun("a"), 0)), true)
		}
	}
}

// There takes any goals: what is inside one of any kind counts, and what is no Call is of no predicate.
func TestThereOfAnything(t *testing.T) {
	p := program(clause(fun("a"), -1, b), api.Clause{})
	for _, kind := range []int{1, 2, 3, 4, 5, 0, 6, -1} {
		x := fun("a")
		for _, g := range []api.Goal{{Kind: kind, T: x, A: goals(b)}, {Kind: kind, T: x, B: goals(b)}, {Kind: kind, T: x, C: goals(a, b)}} {
			checkThere(t, goals(g), p, false)
			checkThere(t, goals(g), program(facts(1)...), false)
		}
		checkThere(t, goals(api.Goal{Kind: kind, T: x, A: goals(a), B: goals(a), C: goals(a)}), p, true)
		checkThere(t, goals(api.Goal{Kind: kind, T: fun("b")}), p, kind != api.Call)
	}
	checkThere(t, goals(call(number(1))), program(facts(3)...), false)
	checkThere(t, goals(call(variable(1))), program(facts(3)...), false)
	checkThere(t, sample.NestedGoals(50, a), p, true)
	checkThere(t, sample.NestedGoals(50, b), p, false)
	checkThere(t, slices.Repeat(goals(a), 500), p, true)
	checkThere(t, append(slices.Repeat(goals(a), 500), b), p, false)
	checkThere(t, goals(call(fun("p", number(1)))), program(append(facts(500), clause(fun("a"), 0))...), true)
	checkThere(t, goals(a), program(append(facts(500), clause(fun("a"), 0))...), true)
}

func TestCheck(t *testing.T) {
	x := variable(0)
	checkCheck(t, api.Prog{}, 0, api.OK)
	checkCheck(t, program(clause(fun("a"), 0)), 0, api.OK)
	checkCheck(t, program(clause(fun("a"), 0, b), clause(fun("b"), 0, a)), 0, api.OK)
	checkCheck(t, program(clause(fun("a"), 0, a)), 0, api.OK)
	checkCheck(t, program(clause(fun("p", x), 1, not(call(fun("p", x)))), clause(fun("p", x), 1)), 0, api.OK)
	checkCheck(t, program(api.Clause{}), 0, api.ErrArg)
	checkCheck(t, program(clause(fun("a"), 0), api.Clause{}, api.Clause{}), 1, api.ErrArg)
	checkCheck(t, program(clause(fun("a"), 0, b)), 0, api.ErrName)
	checkCheck(t, program(clause(fun("a"), 0), clause(fun("a"), 0, a, not(not(b))), clause(fun("a"), 0, c)), 1, api.ErrName)
	checkCheck(t, program(clause(fun("a"), 0), clause(fun("a"), 0), clause(fun("c"), 0, ifs(none, none, goals(call(fun("c", x)))))), 2, api.ErrArg)
	checkCheck(t, program(clause(fun("a"), 0), clause(fun("a"), 0), clause(fun("c"), 1, ifs(none, none, goals(call(fun("c", x)))))), 2, api.ErrName)
}

// A clause that is not valid is told before one that calls what does not exist, wherever they stand.
func TestOrderOfErrors(t *testing.T) {
	missing, wrong := clause(fun("a"), 0, b), clause(fun("a"), -1)
	for n := range 5 {
		for m := range 5 {
			l := slices.Concat(facts(n), []api.Clause{missing}, facts(m), []api.Clause{wrong}, facts(2))
			checkCheck(t, program(l...), n+m+1, api.ErrArg)
			slices.Reverse(l)
			checkCheck(t, program(l...), 2, api.ErrArg)
		}
		checkCheck(t, program(append(facts(n), missing, missing)...), n, api.ErrName)
		checkCheck(t, program(append(facts(n), wrong, wrong)...), n, api.ErrArg)
	}
	both := clause(fun("a"), 0, b, call(variable(0)))
	checkCheck(t, program(both), 0, api.ErrArg)
}

func TestNumberOfClauses(t *testing.T) {
	missing, wrong := clause(fun("a"), 0, b), clause(fun("a"), -1)
	for _, n := range []int{199, 200} {
		checkCheck(t, program(facts(n)...), 0, api.OK)
		checkCheck(t, program(append(facts(n-1), missing)...), n-1, api.ErrName)
		checkCheck(t, program(append(facts(n-1), wrong)...), n-1, api.ErrArg)
	}
	for _, n := range []int{201, 202, 1000, 5000} {
		checkCheck(t, program(facts(n)...), 200, api.ErrLarge)
		checkCheck(t, program(append([]api.Clause{wrong, missing}, facts(n-2)...)...), 200, api.ErrLarge)
		checkCheck(t, program(append(facts(n-1), wrong)...), 200, api.ErrLarge)
		checkCheck(t, api.Prog{Clauses: make([]api.Clause, n)}, 200, api.ErrLarge)
	}
}

func TestAnyProgram(t *testing.T) {
	r := rand.New(rand.NewSource(404))
	count := map[api.Errno]int{}
	for range 5000 {
		var l []api.Clause
		for range r.Intn(7) {
			l = append(l, anyClause(r))
		}
		for i := range l {
			if r.Intn(8) == 0 && len(l[i].Body) > 0 {
				spoil(r, l[i].Body)
			}
		}
		p := program(l...)
		at, e := checkByWords(p)
		checkCheck(t, p, at, e)
		count[e]++
		body := anyGoals(r, 3, false)
		checkThere(t, body, p, thereByWords(body, p))
	}
	if len(count) != 3 || count[api.OK] < 300 || count[api.ErrArg] < 300 || count[api.ErrName] < 300 {
		t.Errorf("errors: %v", count)
	}
}

// Names that contain a number are told apart from names with that number of Args.
func TestNamesAlike(t *testing.T) {
	p := program(clause(fun("p1"), 0), clause(fun("p", number(1)), 0), clause(fun("p/1", number(1)), 0), clause(fun(strings.Repeat("x", 20)), 0))
	checkThere(t, goals(call(fun("p1")), call(fun("p", variable(0))), call(fun("p/1", variable(0))), call(fun(strings.Repeat("x", 20)))), p, true)
	for _, x := range []api.Term{fun("p1", variable(0)), fun("p"), fun("p/1"), fun(strings.Repeat("x", 19)), fun(strings.Repeat("x", 21)), fun("1p")} {
		checkThere(t, goals(call(x)), p, false)
	}
}
