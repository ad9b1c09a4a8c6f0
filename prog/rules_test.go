package prog_test

import (
	"fmt"
	"math"
	"math/rand"
	"strings"
	"sync"
	"testing"

	"finial/api"
	"finial/prog"
	"finial/sample"
)

// P0, for the calls of this package: the rules R1 to R5.

// R1: every call returns, and none panics.
func TestCallsReturn(t *testing.T) {
	odd := sample.Odd()
	var l []api.Goal
	for _, x := range odd {
		checkNoGoals(t, x, api.ErrArg)
		checkClause(t, clause(x, 1000), false)
		checkClause(t, clause(fun("p"), 1000, call(x)), false)
		checkCheck(t, program(clause(x, 0), clause(fun("p"), 0, call(x))), 0, api.ErrArg)
		checkNoQuery(t, "p.", program(clause(fun("p"), 0), clause(fun("p"), 0, does(x))), 1, api.ErrArg)
		for _, kind := range []int{1, 2, 3, 4, 5, 0, -1, math.MinInt, math.MaxInt} {
			g := api.Goal{Kind: kind, T: x}
			checkThere(t, goals(g), api.Prog{}, kind != api.Call)
			checkThere(t, goals(g), program(clause(x, -9)), true)
			l = append(l, g)
		}
	}
	checkThere(t, l, api.Prog{}, false)
	checkThere(t, []api.Goal{{A: l, B: l, C: l}}, program(api.Clause{Body: l}), false)
	checkClause(t, clause(fun("p"), 0, l...), false)
	checkClause(t, clause(fun("p"), 0, ifs(l, l, l)), false)
	checkCheck(t, program(clause(fun("p"), math.MinInt, l...)), 0, api.ErrArg)
	for _, s := range []string{"", ".", "\x00", "\xff\xfe", "a :- .", "漢.", strings.Repeat(" ", 1<<22), strings.Repeat("a :- b, c.\n", 1<<18), strings.Repeat("(", 8000), strings.Repeat("a,", 4000), strings.Repeat("\\+ ", 2500) + "a.", strings.Repeat("_,", 3000) + "a."} {
		checkLoadByWords(t, s)
		queryByWords(t, s, api.Prog{})
	}
	for _, name := range []string{"", "\x00", strings.Repeat("=", 1<<20), strings.Repeat("?", 1<<20)} {
		for _, args := range []int{math.MinInt, -1, 0, 2, math.MaxInt} {
			checkName(t, name, args, false, false)
		}
	}
}

func TestAnyBytes(t *testing.T) {
	r := rand.New(rand.NewSource(412))
	for range 3000 {
		l := make([]byte, r.Intn(60))
		r.Read(l)
		checkLoadByWords(t, string(l))
		queryByWords(t, string(l), api.Prog{})
	}
	for b := range 256 {
		for _, s := range []string{"", "a", "a.", "a :- ", "a :- b", "a :- b. b"} {
			for _, end := range []string{"", ".", " .", "b."} {
				checkLoadByWords(t, s+string([]byte{byte(b)})+end)
			}
		}
	}
}

// R1: goals nested as deep as can be, and in every field.
func TestNestedAsDeepAsCanBe(t *testing.T) {
	const n = 1<<15 - 1
	for _, kind := range []int{1, 2, 3, 4, 5, 6} {
		inA, inB, inC := api.Goal{Kind: kind}, api.Goal{Kind: kind}, api.Goal{Kind: kind}
		for range n {
			inA, inB, inC = api.Goal{Kind: kind, A: goals(inA)}, api.Goal{Kind: kind, B: goals(inB)}, api.Goal{Kind: kind, C: goals(inC)}
		}
		for _, g := range []api.Goal{inA, inB, inC} {
			if got := prog.There(goals(g), api.Prog{}); got != (kind != api.Call) {
				t.Errorf("There of kind %d: %t", kind, got)
			}
			if prog.Clause(clause(fun("p"), 0, g)) {
				t.Errorf("Clause of kind %d", kind)
			}
			if at, e := prog.Check(program(clause(fun("p"), 0), clause(fun("p"), 0, g))); at != 1 || e != api.ErrArg {
				t.Errorf("Check of kind %d: error %d at %d", kind, e, at)
			}
		}
	}
}

// R2: with an error all other results are zero values, except its place.
func TestNothingBesideErrors(t *testing.T) {
	for _, s := range []string{"a, X", "a, b, (a -> \\+ !)", "a, (a ; b)", strings.Repeat("a, ", 20) + "a", strings.Repeat("a, ", 10) + strings.Repeat("\\+ ", 10) + "a"} {
		if l, e := prog.Goals(parsed(t, s)); e == api.OK || len(l) != 0 {
			t.Errorf("Goals of %s: %d goals, error %d", s, len(l), e)
		}
		if p, _, e := prog.Load("a. b. c :- " + s + ". d."); e == api.OK || len(p.Clauses) != 0 {
			t.Errorf("Load of %s: %d clauses, error %d", s, len(p.Clauses), e)
		}
		if c, l, at, e := prog.Query(s+", p(X).", program(facts(3)...)); e == api.OK || at != 0 || len(l) != 0 || sample.TextOfClause(c) != sample.TextOfClause(api.Clause{}) {
			t.Errorf("Query of %s: %s, %q, error %d at %d", s, brief(sample.TextOfClause(c)), l, e, at)
		}
	}
	checkNoLoad(t, "a :- b. b :- c.", 1, api.ErrName)
	checkNoQuery(t, "z(X).", program(facts(3)...), 0, api.ErrName)
}

// R3: arguments are not changed, nor what lies behind a list in its memory.
func TestArgumentsStay(t *testing.T) {
	r := rand.New(rand.NewSource(413))
	for range 300 {
		x := anyBody(r, 1+r.Intn(5), 50)
		l := append(anyGoals(r, 3, false), a)
		whole := append(make([]api.Clause, 0, 9), anyClause(r), anyClause(r), clause(x, 3, l...), clause(fun("behind"), 0))
		before := fmt.Sprintf("%#v %#v", x, whole)
		p := program(whole[:3]...)
		prog.Goals(x)
		prog.Clause(whole[2])
		prog.There(l[:len(l)-1], p)
		prog.Check(p)
		prog.Check(program(whole[:2]...))
		prog.Query("a, p(X).", program(whole[:2]...))
		if after := fmt.Sprintf("%#v %#v", x, whole); after != before {
			t.Errorf("changed: %s to %s", brief(before), brief(after))
		}
	}
}

// R3: a nil list and an empty one are the same.
func TestNilAndEmpty(t *testing.T) {
	no, empty := []api.Term{}, []api.Goal{}
	bare := api.Term{Kind: api.Fun, Name: "a", Args: no}
	checkGoals(t, bare, a)
	checkGoals(t, api.Term{Kind: api.Fun, Name: "!", Args: no}, cut())
	checkGoals(t, fun("\\+", api.Term{Kind: api.Fun, Name: "true", Args: no}), not())
	checkNoGoals(t, api.Term{Kind: api.Var, Args: no}, api.ErrType)
	for _, g := range []api.Goal{
		{Kind: api.Call, T: bare, A: empty, B: empty, C: empty}, {Kind: api.Does, T: fun("nl", no...), A: empty, B: empty, C: empty}, {Kind: api.Cut, T: api.Term{Args: no}, A: empty, B: empty, C: empty},
		{Kind: api.If, T: api.Term{Args: no}, A: empty, B: empty, C: empty}, {Kind: api.Not, T: api.Term{Args: no}, A: empty, B: empty, C: empty},
	} {
		checkClause(t, clause(bare, 0, g), true)
		checkThere(t, goals(g), program(clause(fun("a"), 0)), true)
	}
	checkClause(t, api.Clause{Head: bare, Body: empty}, true)
	checkCheck(t, api.Prog{Clauses: []api.Clause{}}, 0, api.OK)
	checkQuery(t, "fail.", api.Prog{Clauses: []api.Clause{}}, nil, failing)
	checkThere(t, empty, api.Prog{Clauses: []api.Clause{}}, true)
}

// R3: what one call has returned is not changed by later ones, nor by what becomes of its arguments; no two parts of it
// share memory.
func TestResultsStay(t *testing.T) {
	const s = "p(X) :- q(X, f(Y)), (p(X) -> p(f(X)) ; \\+ X = f(Y)). q(f(X), X)."
	x := parsed(t, "p(f(X)), (q(f(X), f(X)) -> \\+ p(f(X)))")
	l, _ := prog.Goals(x)
	p := loaded(t, s)
	c, names, _, _ := prog.Query("q(f(X), Y), p(f(X)).", p)
	texts := func() string {
		return sample.TextOfGoals(l) + sample.TextOfProgram(p) + sample.TextOfClause(c) + strings.Join(names, " ")
	}
	want := texts()
	sample.Overwrite(x)
	r := rand.New(rand.NewSource(414))
	for range 200 {
		q, _, _ := prog.Load(s)
		for i := range q.Clauses {
			sample.Overwrite(q.Clauses[i].Head)
			sample.OverwriteGoals(q.Clauses[i].Body)
			q.Clauses[i] = api.Clause{}
		}
		d, m, _, _ := prog.Query("q(f(X), Y), p(f(X)).", p)
		sample.Overwrite(d.Head)
		sample.OverwriteGoals(d.Body)
		clear(m)
		prog.Load(anyText(r))
	}
	if got := texts(); got != want {
		t.Errorf("changed: %s to %s", brief(want), brief(got))
	}
	want = sample.TextOfClause(p.Clauses[1]) + sample.TextOfGoals(c.Body) + sample.TextOfGoals(l[1:])
	sample.Overwrite(p.Clauses[0].Head)
	sample.OverwriteGoals(p.Clauses[0].Body)
	sample.Overwrite(c.Head)
	sample.OverwriteGoals(l[:1])
	if got := sample.TextOfClause(p.Clauses[1]) + sample.TextOfGoals(c.Body) + sample.TextOfGoals(l[1:]); got != want {
		t.Errorf("shared memory: %s became %s", brief(want), brief(got))
	}
}

// R3: a program that the query was asked of may be overwritten.
func TestQueryIsApart(t *testing.T) {
	p := loaded(t, "p(f(X), a) :- p(X, b).")
	c, _, _, _ := prog.Query("p(f(X), a).", p)
	want := sample.TextOfClause(c)
	sample.Overwrite(p.Clauses[0].Head)
	sample.OverwriteGoals(p.Clauses[0].Body)
	if got := sample.TextOfClause(c); got != want {
		t.Errorf("changed: %s to %s", brief(want), brief(got))
	}
}

// R4: results depend on the arguments alone, not on what was asked before, nor on what is asked at the same time.
func TestSameResultsAgain(t *testing.T) {
	l := []string{"", "a.", "a :- b. b.", "a :- b.", "a :- X.", "{", "1.", "p(X, Y) :- p(Y, X), !.", strings.Repeat("a. ", 201), "a :- " + strings.Repeat("a, ", 20) + "a.", strings.Repeat(" ", 9000)}
	for _, x := range l {
		for _, y := range l {
			p, at, e := prog.Load(y)
			prog.Load(x)
			prog.Query(x, p)
			q, i, f := prog.Load(y)
			if sample.TextOfProgram(q) != sample.TextOfProgram(p) || i != at || f != e {
				t.Errorf("%s after %s: error %d at %d, not %d at %d", brief(y), brief(x), f, i, e, at)
			}
		}
	}
	var all sync.WaitGroup
	for i := range 8 {
		all.Go(func() {
			r := rand.New(rand.NewSource(int64(i)))
			for range 300 {
				checkLoadByWords(t, anyText(r))
				checkGoalsByWords(t, anyBody(r, 4, 50))
				c := anyClause(r)
				checkClause(t, c, rightByWords(c))
				checkNameByWords(t, []string{"=", "is", "true", "?", "a"}[r.Intn(5)], r.Intn(4))
			}
		})
	}
	all.Wait()
}

// R5: clauses, bytes and variables are counted from 0; names are compared byte by byte.
func TestCountedFromZero(t *testing.T) {
	checkNoLoad(t, "1. a.", 0, api.ErrType)
	checkNoLoad(t, "a. 1.", 1, api.ErrType)
	checkNoLoad(t, "%é漢\n a b.", 10, api.ErrForm)
	checkNoQuery(t, "%é漢\n a b.", api.Prog{}, 10, api.ErrForm)
	checkLoad(t, "p(X, Y).", clause(fun("p", variable(0), variable(1)), 2))
	checkThere(t, goals(call(fun("aA"))), program(clause(fun("aa"), 0), clause(fun("Aa"), 0), clause(fun("AA"), 0), clause(fun("aA "), 0)), false)
}
