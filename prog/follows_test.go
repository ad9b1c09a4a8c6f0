package prog_test

import (
	"math/rand"
	"slices"
	"strings"
	"testing"

	"finial/api"
	"finial/prog"
	"finial/sample"
	"finial/write"
)

// P11.5: what was loaded is valid, also without its last clause.

// anyLoaded returns any program that was loaded.
func anyLoaded(r *rand.Rand) api.Prog {
	for {
		if p, _, e := prog.Load(anyText(r)); e == api.OK && len(p.Clauses) > 0 {
			return p
		}
	}
}

func TestLoadedIsValid(t *testing.T) {
	r := rand.New(rand.NewSource(408))
	for range 1000 {
		p := anyLoaded(r)
		checkCheck(t, p, 0, api.OK)
		for _, c := range p.Clauses {
			checkClause(t, c, true)
			checkThere(t, c.Body, p, true)
			if !rightByWords(c) {
				t.Errorf("not valid: %s", brief(sample.TextOfClause(c)))
			}
		}
	}
}

// What can be made of a term at most is valid, too: the most goals, the deepest ones, the most variables.
func TestLargestIsValid(t *testing.T) {
	for _, s := range []string{
		"a :- " + strings.Repeat("a, ", 19) + "a.",
		"a :- " + strings.Repeat("\\+ ", 9) + "a.",
		"a :- " + strings.Repeat("\\+ ", 10) + "true.",
		"a :- " + strings.Repeat("(true -> ", 9) + "!" + strings.Repeat(" ; !)", 9) + ".",
		"a :- " + strings.Repeat("(true -> ", 8) + "(true -> true)" + strings.Repeat(" ; !)", 8) + ".",
		"a :- " + strings.Repeat("a, ", 18) + "(true -> true).",
		"p(" + anonymous(1000) + ").",
		strings.Repeat("a. ", 200),
	} {
		checkCheck(t, loaded(t, s), 0, api.OK)
	}
}

// The result of Goals is valid in a clause, whatever the term is.
func TestGoalsAreValid(t *testing.T) {
	r := rand.New(rand.NewSource(409))
	for range 5000 {
		if l, e := prog.Goals(anyBody(r, 1+r.Intn(8), 300)); e == api.OK {
			checkClause(t, clause(fun("p"), 3, l...), true)
		}
	}
}

func TestWithoutLastClause(t *testing.T) {
	r := rand.New(rand.NewSource(410))
	count := map[api.Errno]int{}
	for range 2000 {
		p := anyLoaded(r)
		for len(p.Clauses) > 0 {
			n := len(p.Clauses) - 1
			last := heads(p)[n]
			p.Clauses = p.Clauses[:n]
			at, e := prog.Check(p)
			count[e]++
			if e == api.OK {
				continue
			}
			if e != api.ErrName || slices.Contains(heads(p), last) {
				t.Errorf("error %d at %d without %s: %s", e, at, last, brief(sample.TextOfProgram(p)))
			}
			for _, g := range sample.AllGoals(p.Clauses[at].Body) {
				if called := what(g.T); g.Kind == api.Call && called != last && !slices.Contains(heads(p), called) {
					t.Errorf("%s is called", called)
				}
			}
			break
		}
	}
	if len(count) != 2 || count[api.OK] < 300 || count[api.ErrName] < 300 {
		t.Errorf("errors: %v", count)
	}
}

// A program's text is loaded as this program, and a query's text as its goals.
func TestLoadAgain(t *testing.T) {
	r := rand.New(rand.NewSource(411))
	for range 1000 {
		p := anyLoaded(r)
		s := ""
		for _, c := range p.Clauses {
			s += write.Clause(c) + "\n"
		}
		checkLoad(t, s, p.Clauses...)
	}
}
