package write_test

import (
	"math"
	"math/rand"
	"strings"
	"testing"

	"finial/api"
	"finial/sample"
	"finial/term"
	"finial/write"
)

// P10.2: Goals and Clause.

var (
	a, b, c = call(fun("a")), call(fun("b")), call(fun("c"))
	none    []api.Goal
)

func TestGoals(t *testing.T) {
	checkGoals(t, none, "true")
	checkGoals(t, goals(a), "a")
	checkGoals(t, goals(a, b), "a, b")
	checkGoals(t, goals(a, b, c), "a, b, c")
	checkGoals(t, goals(call(fun("p", variable(0), list(variable(1)))), does(fun("write", variable(0))), cut()), "p(_0,[_1]), write(_0), !")
	checkGoals(t, goals(does(fun("fail"))), "fail")
	checkGoals(t, goals(does(fun("is", variable(0), fun("+", number(1), number(-2))))), "is(_0,+(1,-2))")
	checkGoals(t, goals(cut()), "!")
	checkGoals(t, goals(cut(), cut(), a), "!, !, a")
	checkGoals(t, goals(a, cut(), b), "a, !, b")
}

func TestIf(t *testing.T) {
	checkGoals(t, goals(ifs(goals(a), goals(b), goals(c))), "(a -> b ; c)")
	checkGoals(t, goals(ifs(goals(a, b), goals(b, c, a), goals(c, a))), "(a, b -> b, c, a ; c, a)")
	checkGoals(t, goals(ifs(none, none, none)), "(true -> true ; true)")
	checkGoals(t, goals(ifs(goals(a), none, none)), "(a -> true ; true)")
	checkGoals(t, goals(ifs(none, goals(a), none)), "(true -> a ; true)")
	checkGoals(t, goals(ifs(none, none, goals(a))), "(true -> true ; a)")
	checkGoals(t, goals(ifs(goals(a), goals(b), goals(does(fun("fail"))))), "(a -> b ; fail)")
	checkGoals(t, goals(a, ifs(goals(a), goals(cut()), goals(c)), b), "a, (a -> ! ; c), b")
	inner := ifs(goals(a), goals(b), goals(c))
	checkGoals(t, goals(ifs(goals(inner), goals(a), goals(b))), "((a -> b ; c) -> a ; b)")
	checkGoals(t, goals(ifs(goals(a), goals(inner, b), goals(b))), "(a -> (a -> b ; c), b ; b)")
	checkGoals(t, goals(ifs(goals(a), goals(b), goals(c, inner))), "(a -> b ; c, (a -> b ; c))")
	checkGoals(t, goals(inner, inner), "(a -> b ; c), (a -> b ; c)")
}

func TestNot(t *testing.T) {
	checkGoals(t, goals(not(a)), "\\+ (a)")
	checkGoals(t, goals(not(a, b)), "\\+ (a, b)")
	checkGoals(t, goals(not()), "\\+ (true)")
	checkGoals(t, goals(not(not(a), b)), "\\+ (\\+ (a), b)")
	checkGoals(t, goals(a, not(b), c), "a, \\+ (b), c")
	checkGoals(t, goals(not(ifs(goals(a), goals(b), none))), "\\+ ((a -> b ; true))")
	checkGoals(t, goals(ifs(goals(not(a)), goals(not(b, c)), goals(not()))), "(\\+ (a) -> \\+ (b, c) ; \\+ (true))")
}

func TestOtherKinds(t *testing.T) {
	for _, kind := range []int{0, -1, 6, 7, math.MinInt, math.MaxInt, 1 << 32, 1<<32 + 1} {
		g := api.Goal{Kind: kind}
		full := api.Goal{Kind: kind, T: fun("a"), A: goals(a), B: goals(b), C: goals(c)}
		checkGoals(t, goals(g), "fail")
		checkGoals(t, goals(full), "fail")
		checkGoals(t, goals(a, g, full, b), "a, fail, fail, b")
		checkGoals(t, goals(not(g), ifs(goals(full), goals(a, g), goals(g))), "\\+ (fail), (fail -> a, fail ; fail)")
		checkClause(t, api.Clause{Head: fun("p"), Body: goals(g)}, "p :- fail.")
	}
}

// Fields that a goal of the kind does not have make no difference.
func TestOtherFields(t *testing.T) {
	for _, x := range []api.Term{{}, fun("x"), variable(-1), long(9000)} {
		l := goals(a, cut(), api.Goal{Kind: 9})
		checkGoals(t, goals(api.Goal{Kind: api.Cut, T: x, A: l, B: l, C: l}), "!")
		checkGoals(t, goals(api.Goal{Kind: api.If, T: x, A: goals(a), B: goals(b), C: goals(c)}), "(a -> b ; c)")
		checkGoals(t, goals(api.Goal{Kind: api.Not, T: x, A: goals(a), B: l, C: l}), "\\+ (a)")
		checkGoals(t, goals(api.Goal{Kind: api.Not, T: x, B: l, C: l}), "\\+ (true)")
		checkGoals(t, goals(api.Goal{Kind: api.Call, T: fun("b"), A: l, B: l, C: l}), "b")
		checkGoals(t, goals(api.Goal{Kind: api.Does, T: fun("b"), A: l, B: l, C: l}), "b")
	}
}

// The terms of goals are printed as Term does, whatever they are.
func TestTermsOfGoals(t *testing.T) {
	checkGoals(t, goals(call(variable(0)), does(number(-1)), call(fun("a"))), "_0, -1, a")
	checkGoals(t, goals(call(fun(",", fun("a"), fun("b")))), "','(a,b)")
	checkGoals(t, goals(call(fun("!")), does(fun("true")), call(list(fun("a")))), "!, true, [a]")
	checkGoals(t, goals(does(fun("nl")), call(fun("nl")), does(fun("p"))), "nl, nl, p")
	checkGoals(t, goals(call(fun("->", fun("a"), fun("b"))), call(fun("\\+", fun("A")))), "->(a,b), \\+('A')")
	checkGoals(t, goals(call(api.Term{}), does(variable(-1)), call(fun("")), cut(), does(fun("?"))), "?, ?, ?, !, ?")
	checkGoals(t, goals(ifs(goals(call(api.Term{})), goals(a), goals(does(fun("a\n")))), not(call(fun("f", number(1), api.Term{})))), "(? -> a ; ?), \\+ (?)")
	most := "x(" + termByWords(long(8000))[2:]
	checkGoals(t, goals(call(long(8000)), does(long(8001)), call(long(8000))), most+", ?, "+most)
	checkGoals(t, goals(not(does(long(8000)), call(long(8001)))), "\\+ ("+most+", ?)")
	checkGoals(t, goals(call(sample.Deep(100, fun("a"))), call(sample.Sized(3001, fun("a")))), "?, ?")
}

func TestClauses(t *testing.T) {
	checkClause(t, api.Clause{Head: fun("a")}, "a.")
	checkClause(t, api.Clause{Head: fun("a"), Body: goals(b)}, "a :- b.")
	checkClause(t, api.Clause{Head: fun("a"), Body: goals(b, c)}, "a :- b, c.")
	checkClause(t, api.Clause{Head: fun("a"), Body: goals(cut())}, "a :- !.")
	checkClause(t, api.Clause{Head: fun("p", variable(0), fun("B")), Body: goals(call(fun("q", variable(0), variable(1))), cut()), Vars: 2}, "p(_0,'B') :- q(_0,_1), !.")
	checkClause(t, api.Clause{Head: fun("a"), Body: goals(ifs(goals(a), goals(b), none), not(c))}, "a :- (a -> b ; true), \\+ (c).")
	checkClause(t, api.Clause{Head: fun("app", list(), variable(0), variable(0)), Vars: 1}, "app([],_0,_0).")
	checkClause(t, api.Clause{Head: fun("app", pair(variable(0), variable(1)), variable(2), pair(variable(0), variable(3))), Body: goals(call(fun("app", variable(1), variable(2), variable(3)))), Vars: 4}, "app([_0|_1],_2,[_0|_3]) :- app(_1,_2,_3).")
	checkClause(t, api.Clause{Head: fun("?", variable(0)), Body: goals(a), Vars: 1}, "?(_0) :- a.")
	checkClause(t, api.Clause{Head: fun("a"), Body: goals(call(fun("true")))}, "a :- true.")
}

// Of any clauses: neither head nor Vars have to be right.
func TestAnyClauses(t *testing.T) {
	checkClause(t, api.Clause{}, "?.")
	checkClause(t, api.Clause{Body: goals(a)}, "? :- a.")
	checkClause(t, api.Clause{Body: goals(api.Goal{})}, "? :- fail.")
	checkClause(t, api.Clause{Head: variable(0)}, "_0.")
	checkClause(t, api.Clause{Head: number(-7), Body: goals(b)}, "-7 :- b.")
	checkClause(t, api.Clause{Head: fun("=")}, "=.")
	checkClause(t, api.Clause{Head: fun(":-", fun("a"), fun("b"))}, ":-(a,b).")
	checkClause(t, api.Clause{Head: fun("!"), Body: goals(cut())}, "! :- !.")
	checkClause(t, api.Clause{Head: long(8001), Body: goals(a)}, "? :- a.")
	checkClause(t, api.Clause{Head: long(8000), Body: goals(a)}, termByWords(long(8000))+" :- a.")
	checkClause(t, api.Clause{Head: variable(1000000)}, "?.")
	for _, n := range []int{math.MinInt, -1, 0, 1, 1001, math.MaxInt} {
		checkClause(t, api.Clause{Head: fun("p", variable(3)), Vars: n}, "p(_3).")
		checkClause(t, api.Clause{Head: fun("p", variable(3)), Body: goals(call(variable(7))), Vars: n}, "p(_3) :- _7.")
	}
}

// Goals and clauses are printed whole, however many there are and however deep they are nested.
func TestLargeGoals(t *testing.T) {
	const n = 30000
	var l []api.Goal
	for range n {
		l = append(l, a)
	}
	many := strings.Repeat("a, ", n-1) + "a"
	checkGoals(t, l, many)
	checkGoals(t, goals(not(l...)), "\\+ ("+many+")")
	checkGoals(t, goals(ifs(l, l, l)), "("+many+" -> "+many+" ; "+many+")")
	checkClause(t, api.Clause{Head: fun("p"), Body: l}, "p :- "+many+".")
	nots, as, bs, cs := goals(a), goals(a), goals(a), goals(a)
	for range n {
		nots, as, bs, cs = goals(not(nots...)), goals(ifs(as, none, none)), goals(ifs(none, bs, none)), goals(ifs(none, none, cs))
	}
	checkGoals(t, nots, strings.Repeat("\\+ (", n)+"a"+strings.Repeat(")", n))
	checkGoals(t, as, strings.Repeat("(", n)+"a"+strings.Repeat(" -> true ; true)", n))
	checkGoals(t, bs, strings.Repeat("(true -> ", n)+"a"+strings.Repeat(" ; true)", n))
	checkGoals(t, cs, strings.Repeat("(true -> true ; ", n)+"a"+strings.Repeat(")", n))
}

func TestManyGoals(t *testing.T) {
	r := rand.New(rand.NewSource(302))
	for range 20000 {
		l := anyGoals(r, 3)
		checkGoals(t, l, goalsByWords(l, term.Right))
		x := api.Clause{Head: anyTerm(r, 3), Body: l, Vars: r.Intn(9)}
		checkClause(t, x, clauseByWords(x, term.Right))
	}
}

// The text of goals consists of the texts of its parts.
func TestGoalsOneByOne(t *testing.T) {
	r := rand.New(rand.NewSource(303))
	for range 5000 {
		l, m := anyGoals(r, 2), anyGoals(r, 2)
		if len(l) == 0 || len(m) == 0 {
			continue
		}
		x, y := write.Goals(l), write.Goals(m)
		checkGoals(t, append(l[:len(l):len(l)], m...), x+", "+y)
		checkGoals(t, goals(not(l...), ifs(m, l, none)), "\\+ ("+x+"), ("+y+" -> "+x+" ; true)")
		checkClause(t, api.Clause{Head: fun("p"), Body: l}, "p :- "+x+".")
	}
}
