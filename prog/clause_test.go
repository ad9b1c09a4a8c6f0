package prog_test

import (
	"math"
	"math/rand"
	"slices"
	"testing"

	"finial/api"
	"finial/sample"
)

// P11.2: Clause.

// checkClauses asks for whether each clause is valid.
func checkClauses(t *testing.T, want bool, l ...api.Clause) {
	t.Helper()
	for _, c := range l {
		checkClause(t, c, want)
		if rightByWords(c) != want {
			t.Errorf("by the words, %s: %t", brief(sample.TextOfClause(c)), !want)
		}
	}
}

func TestHeads(t *testing.T) {
	x := variable(0)
	checkClauses(t, true,
		clause(fun("p"), 0), clause(fun("p", x), 1), clause(fun("p", x, fun("q"), number(1)), 1), clause(fun("[]"), 0), clause(fun("A b"), 0), clause(sample.List(x), 1),
		clause(fun("true", x), 1), clause(fun("!", x), 1), clause(fun(","), 0), clause(fun(";", x), 1), clause(fun("->", x, x, x), 1), clause(fun("\\+"), 0), clause(fun(":-", x), 1),
		clause(fun("fail", x), 1), clause(fun("write"), 0), clause(fun("is", x), 1), clause(fun("arg", x), 1), clause(fun("=", x, x, x), 1), clause(fun("p", fun("?"), fun(":-", x, x)), 1),
		clause(fun("p", sample.Variables(0, 8)...), 8), clause(sample.Sized(api.MaxNodes, x), 1), clause(sample.Deep(api.MaxDeep-1, x), 1),
	)
	checkClauses(t, false,
		api.Clause{}, clause(x, 1), clause(number(3), 0), clause(api.Term{Kind: 4, Name: "p"}, 0), clause(fun(""), 0),
		clause(fun("p", sample.Variables(0, 9)...), 9), clause(sample.Sized(api.MaxNodes+1, x), 1), clause(sample.Deep(api.MaxDeep, x), 1),
		clause(fun("?"), 0), clause(fun("?", x), 1), clause(fun("?", sample.Variables(0, 8)...), 8),
		clause(fun("true"), 0), clause(fun("!"), 0), clause(fun(",", x, x), 1), clause(fun(";", x, x), 1), clause(fun("->", x, x), 1), clause(fun("\\+", x), 1), clause(fun(":-", x, x), 1),
		clause(fun("fail"), 0), clause(fun("nl"), 0), clause(fun("write", x), 1), clause(fun("var", x), 1), clause(fun("is", x, x), 1), clause(fun("=", x, x), 1), clause(fun("=..", x, x), 1), clause(fun("functor", x, x, x), 1), clause(fun("arg", x, x, x), 1),
	)
	for _, w := range sample.WrongOnes() {
		checkClauses(t, false, clause(w, 1000), clause(fun("p", w), 1000), clause(fun("p"), 1000, call(w)), clause(fun("p"), 1000, does(fun("write", w))), clause(fun("p"), 1000, a, not(call(fun("q", x, w)))))
	}
}

func TestVars(t *testing.T) {
	last := func(v int) []api.Clause {
		x := fun("f", variable(0), variable(v))
		return []api.Clause{
			clause(fun("p", x), v+1), clause(fun("p"), v+1, call(x)), clause(fun("p"), v+1, a, does(fun("write", x))),
			clause(fun("p"), v+1, ifs(goals(call(x)), none, none)), clause(fun("p"), v+1, ifs(none, goals(call(x)), none)), clause(fun("p"), v+1, ifs(none, none, goals(a, call(x)))), clause(fun("p"), v+1, not(not(call(x)))),
		}
	}
	for _, v := range []int{0, 1, 5, 998, 999} {
		for _, c := range last(v) {
			checkClauses(t, true, c)
			for _, vars := range []int{c.Vars - 1, v / 2, 0, -1, math.MinInt} {
				c.Vars = vars
				checkClauses(t, false, c)
			}
			c.Vars = 1000
			checkClauses(t, true, c)
		}
	}
	checkClauses(t, false, last(1000)...)
	checkClauses(t, false, last(api.MaxVar-1)...)
	for _, vars := range []int{0, 1, 7, 999, 1000} {
		checkClauses(t, true, clause(fun("p"), vars), clause(fun("p"), vars, a))
	}
	for _, vars := range []int{-1, -2, 1001, 1002, api.MaxVar, math.MinInt, math.MaxInt, 1 << 32} {
		checkClauses(t, false, clause(fun("p"), vars), clause(fun("p", variable(0)), vars))
	}
}

func TestKindsOfGoals(t *testing.T) {
	x := fun("q", variable(0))
	right := [][]api.Goal{
		none, {call(x)}, {does(fun("nl"))}, {cut()}, {ifs(none, none, none)}, {not()}, {call(x), cut(), does(fun("=", x, x)), cut()},
		{ifs(goals(a), goals(b), goals(c)), a}, {not(a, b)}, {ifs(none, goals(cut()), goals(a, cut()))}, {ifs(none, goals(ifs(none, goals(cut()), goals(cut()))), goals(ifs(none, goals(cut()), goals(cut()))))},
		{not(ifs(goals(a), goals(b), goals(not())))}, {call(fun("true", x)), call(fun("fail", x)), call(fun("->")), call(fun("write"))},
	}
	for _, l := range right {
		checkClauses(t, true, clause(x, 1, l...), clause(x, 1, append(goals(a), l...)...))
	}
	wrong := []api.Goal{
		{}, {Kind: 6}, {Kind: -1}, {Kind: math.MaxInt}, {T: x}, {Kind: 6, T: x},
		call(variable(0)), call(number(0)), call(api.Term{}), call(fun("nl")), call(fun("write", x)), call(fun("=", x, x)), call(fun("true")), call(fun("!")), call(fun(",", x, x)), call(fun("?")), call(fun("?", x)), call(fun(":-", x, x)), call(fun("\\+", x)),
		does(variable(0)), does(number(0)), does(api.Term{}), does(fun("q")), does(fun("nl", x)), does(fun("write")), does(fun("true")), does(fun("!")), does(fun(";", x, x)), does(fun("?")), does(fun("->", x, x)),
		does(api.Term{Kind: 1, Name: "nl"}), does(api.Term{Kind: 4, Name: "nl"}), call(api.Term{Kind: 2, Name: "q"}), call(fun("q", variable(1))), does(fun("write", variable(1))),
		not(cut()), not(a, cut()), not(not(cut())), not(ifs(none, goals(cut()), none)), not(ifs(none, none, goals(cut()))), ifs(goals(cut()), none, none), ifs(goals(a, cut()), none, none),
		ifs(goals(ifs(none, goals(cut()), none)), none, none), ifs(goals(ifs(none, none, goals(cut()))), none, none), ifs(none, goals(not(cut())), none), ifs(none, none, goals(ifs(goals(cut()), none, none))), ifs(goals(not(not(cut()))), none, none),
	}
	// Each field that is filled though it has no meaning.
	for _, g := range []api.Goal{call(x), does(fun("nl")), cut(), not(a)} {
		b, c := g, g
		b.B, c.C = goals(a), goals(a)
		wrong = append(wrong, b, c)
		if g.Kind != api.Not {
			g.A = goals(a)
			wrong = append(wrong, g)
			g.A = goals(api.Goal{})
			wrong = append(wrong, g)
		}
	}
	for _, g := range []api.Goal{cut(), ifs(goals(a), goals(b), goals(c)), ifs(none, none, none), not(a), not()} {
		for _, x := range []api.Term{x, variable(0), number(0), {Name: "a"}, {N: 1}, {N: -1}, {Kind: 9}, {Args: []api.Term{{}}}, fun("nl"), fun("!")} {
			g.T = x
			wrong = append(wrong, g)
		}
	}
	for _, g := range wrong {
		checkClauses(t, false,
			clause(x, 1, g), clause(x, 1, a, b, g), clause(x, 1, g, a), clause(x, 1, not(g)), clause(x, 1, ifs(goals(g), none, none)), clause(x, 1, ifs(none, goals(g), none)), clause(x, 1, ifs(none, none, goals(g))),
			clause(x, 1, ifs(goals(a, g), goals(a), goals(a))), clause(x, 1, not(not(not(a, g, a)))), clause(x, 1, a, ifs(goals(a), goals(a, not(a, g)), goals(a))))
	}
}

func TestNumberOfGoals(t *testing.T) {
	many := func(n int) []api.Goal { return slices.Repeat(goals(a), n) }
	for _, n := range []int{0, 1, 19, 20, 21, 22, 100, 1000} {
		fits := n <= 20
		checkClauses(t, fits, clause(fun("p"), 0, many(n)...), clause(fun("p"), 0, slices.Repeat(goals(cut()), n)...), clause(fun("p"), 0, slices.Repeat(goals(not()), n)...), clause(fun("p"), 0, slices.Repeat(goals(does(fun("nl"))), n)...))
		if n > 0 {
			checkClauses(t, fits,
				clause(fun("p"), 0, not(many(n-1)...)), clause(fun("p"), 0, ifs(many(n-1), none, none)), clause(fun("p"), 0, ifs(none, many(n-1), none)), clause(fun("p"), 0, ifs(none, none, many(n-1))),
				clause(fun("p"), 0, append(many(n-1), not())...), clause(fun("p"), 0, append(many(n-1), ifs(none, none, none))...))
		}
	}
	for i := range 20 {
		for j := range 20 - i {
			k := 19 - i - j
			g := ifs(many(i), many(j), many(k))
			checkClauses(t, true, clause(fun("p"), 0, g))
			checkClauses(t, false, clause(fun("p"), 0, g, a), clause(fun("p"), 0, a, g), clause(fun("p"), 0, not(g)))
		}
	}
}

func TestDepthOfGoals(t *testing.T) {
	around := []func(l []api.Goal) api.Goal{
		func(l []api.Goal) api.Goal { return not(l...) },
		func(l []api.Goal) api.Goal { return ifs(l, none, none) },
		func(l []api.Goal) api.Goal { return ifs(none, l, none) },
		func(l []api.Goal) api.Goal { return ifs(none, none, l) },
	}
	r := rand.New(rand.NewSource(402))
	for n := range 40 {
		for i := range 8 {
			for _, l := range [][]api.Goal{{a}, {does(fun("nl"))}, {a, b}, {not()}, {ifs(none, none, none)}} {
				for range n {
					k := i
					if i >= 4 {
						k = r.Intn(4)
					}
					l = goals(around[k](l))
				}
				checkClauses(t, n <= 9, clause(fun("p"), 0, l...), clause(fun("p"), 0, append(goals(a), l...)...))
			}
		}
	}
}

// Clauses of any goals, as they should be, and with a fault in any field.
func TestAnyClause(t *testing.T) {
	r := rand.New(rand.NewSource(403))
	count := map[bool]int{}
	for range 20000 {
		c := anyClause(r)
		checkClause(t, c, rightByWords(c))
		count[rightByWords(c)]++
		if len(c.Body) > 0 {
			spoil(r, c.Body)
			checkClause(t, c, rightByWords(c))
			count[rightByWords(c)]++
		}
	}
	if count[true] < 5000 || count[false] < 5000 {
		t.Errorf("valid ones: %v", count)
	}
}
