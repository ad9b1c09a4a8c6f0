package write_test

import (
	"fmt"
	"math"
	"math/rand"
	"slices"
	"strings"
	"sync"
	"testing"

	"finial/api"
	"finial/sample"
	"finial/write"
)

// P0, for the calls of this package: the rules R1 to R5.

// oddGoals are goals that no program makes.
func oddGoals() []api.Goal {
	var l []api.Goal
	for _, x := range sample.Odd() {
		for _, kind := range []int{1, 2, 3, 4, 5, 0, -1, math.MinInt, math.MaxInt} {
			l = append(l, api.Goal{Kind: kind, T: x})
		}
	}
	empty := []api.Goal{}
	l = append(l, api.Goal{}, ifs(empty, nil, empty), api.Goal{Kind: api.Not, A: empty}, ifs(goals(api.Goal{}), empty, goals(api.Goal{Kind: 9, A: l[:9]})))
	return append(l, not(l...), ifs(l, l, l))
}

// R1: every call returns, and none panics.
func TestCallsReturn(t *testing.T) {
	for _, x := range sample.Odd() {
		if s, e := write.Term(x); e == api.OK || s != "" {
			t.Errorf("Term of %s: %s, error %d", sample.Brief(x), brief(s), e)
		}
	}
	l := oddGoals()
	for i, g := range l {
		want := goalByWords(g, func(api.Term) bool { return false })
		checkGoals(t, goals(g), want)
		checkClause(t, api.Clause{Head: g.T, Body: l[i : i+1], Vars: i - 9}, "? :- "+want+".")
	}
	checkGoals(t, l, goalsByWords(l, func(api.Term) bool { return false }))
}

// R1: goals nested as deep as can be.
func TestDeepGoals(t *testing.T) {
	const n = 1<<15 - 1
	for _, kind := range []int{1, 2, 3, 4, 5, 6} {
		g := api.Goal{Kind: kind}
		for range n {
			g = api.Goal{Kind: kind, A: []api.Goal{g}}
		}
		checkGoals(t, goals(g), map[int]string{
			1: "?", 2: "?", 3: "!", 6: "fail",
			4: strings.Repeat("(", n) + "(true -> true ; true)" + strings.Repeat(" -> true ; true)", n),
			5: strings.Repeat("\\+ (", n) + "\\+ (true)" + strings.Repeat(")", n),
		}[kind])
	}
}

// R2: with an error there is no text.
func TestNothingBesideErrors(t *testing.T) {
	for _, x := range slices.Concat(sample.WrongOnes(), []api.Term{long(8001), long(9000), sample.Sized(3000, variable(1))}) {
		if s, e := write.Term(x); e == api.OK || s != "" {
			t.Errorf("Term of %s: %s with the error %d", sample.Brief(x), brief(s), e)
		}
	}
}

// R3: arguments are not changed, nor what lies behind a list in its memory.
func TestArgumentsStay(t *testing.T) {
	r := rand.New(rand.NewSource(306))
	for _, x := range slices.Concat(sample.RightOnes(), sample.WrongOnes()[:80]) {
		whole := append(make([]api.Term, 0, 4), x, x, variable(1), fun("behind"))
		check := unchanged(t, whole)
		write.Term(x)
		write.Term(fun(".", whole[:2]...))
		write.Term(fun("f", whole[:3]...))
		write.Goals(goals(call(fun("f", whole[:2]...))))
		check()
	}
	for range 300 {
		whole := append(anyGoals(r, 3), does(fun("behind")))
		l := whole[:len(whole)-1]
		check := unchanged(t, whole)
		write.Goals(l)
		write.Clause(api.Clause{Head: anyTerm(r, 2), Body: l})
		write.Goals(goals(not(l...), ifs(l, l, l)))
		check()
	}
}

// unchanged remembers x; what it returns asks for the same again.
func unchanged(t *testing.T, x any) func() {
	before := fmt.Sprintf("%#v", x)
	return func() {
		t.Helper()
		if after := fmt.Sprintf("%#v", x); after != before {
			t.Errorf("changed: %s to %s", brief(before), brief(after))
		}
	}
}

// R3: a nil list and an empty one are the same.
func TestNilAndEmpty(t *testing.T) {
	for _, x := range []api.Term{variable(3), number(-3), fun("a"), fun("[]"), fun("."), fun("A")} {
		y := x
		y.Args = []api.Term{}
		checkTerm(t, y, termByWords(x))
		checkTerm(t, fun("f", y, x), termByWords(fun("f", x, x)))
		checkTerm(t, pair(x, y), termByWords(pair(x, x)))
	}
	empty := []api.Goal{}
	checkGoals(t, nil, "true")
	checkGoals(t, empty, "true")
	checkGoals(t, goals(ifs(empty, empty, empty), api.Goal{Kind: api.Not, A: empty}), "(true -> true ; true), \\+ (true)")
	checkClause(t, api.Clause{Head: fun("a"), Body: nil}, "a.")
	checkClause(t, api.Clause{Head: fun("a"), Body: empty}, "a.")
}

// R3: what one call has returned is not changed by later ones, nor by what becomes of its arguments.
func TestResultsStay(t *testing.T) {
	x := fun("f", list(fun("it's"), variable(3)), fun("g", number(-1)))
	l := goals(call(x), not(does(x)))
	s, _ := write.Term(x)
	g := write.Goals(l)
	h := write.Clause(api.Clause{Head: x, Body: l})
	r := rand.New(rand.NewSource(307))
	for range 300 {
		write.Term(anyTerm(r, 4))
		write.Clause(api.Clause{Head: anyTerm(r, 2), Body: anyGoals(r, 2)})
	}
	sample.Overwrite(x)
	clear(l)
	want := "f(['it''s',_3],g(-1))"
	if s != want || g != want+", \\+ ("+want+")" || h != want+" :- "+want+", \\+ ("+want+")." {
		t.Errorf("changed: %s, %s, %s", s, g, h)
	}
}

// R4: results depend on the arguments alone, not on what was asked before, nor on what is asked at the same time.
func TestSameResultsAgain(t *testing.T) {
	l := []api.Term{fun("a"), fun("A"), variable(0), number(-1), list(fun("a")), {}, long(8000), long(8001), fun("f", fun("'"), pair(number(1), variable(2))), fun("\n")}
	for _, x := range l {
		for _, y := range l {
			want, e := write.Term(y)
			write.Term(x)
			write.Goals(goals(call(x), api.Goal{}, not()))
			write.Clause(api.Clause{Head: x})
			if again, f := write.Term(y); again != want || f != e {
				t.Errorf("%s after %s: %s, %d, not %s, %d", sample.Brief(y), sample.Brief(x), brief(again), f, brief(want), e)
			}
		}
	}
	var all sync.WaitGroup
	for i := range 8 {
		all.Go(func() {
			r := rand.New(rand.NewSource(int64(i)))
			for range 500 {
				checkWords(t, anyTerm(r, 3))
			}
		})
	}
	all.Wait()
}

// R5: variables and bytes are as they are counted, from 0; names are told apart byte by byte.
func TestCountedFromZero(t *testing.T) {
	checkTerm(t, fun("f", variable(0), variable(1)), "f(_0,_1)")
	checkTerm(t, fun("f", fun("a"), fun("A"), fun("aA"), fun("Aa")), "f(a,'A',aA,'Aa')")
}
