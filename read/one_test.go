package read_test

import (
	"math/rand"
	"strings"
	"testing"

	"finial/api"
	"finial/read"
)

// P9.2: One.

func TestOne(t *testing.T) {
	checkOne(t, "a.", "a")
	checkOne(t, "a .", "a")
	checkOne(t, "\n% c\n a.\n% b.", "a")
	checkOne(t, "p(X, _) :- q(X), \\+ r.", ":-(p(_0, _1), ','(q(_0), \\+(r))) {X }")
	checkOne(t, "-1.", "-1")
	checkOne(t, "X.", "_0 {X}")
	checkOne(t, "(a).", "a")
	checkOne(t, strings.Repeat(" ", 7998)+"a.", "a")
}

func TestNotOne(t *testing.T) {
	for _, s := range []string{"", " ", "\n", "% a.", "a. b.", "a. a.", "a. b. c.", "X. X.", "a.\nb.\n% c", "a. b. ", strings.Repeat(" ", 8000), strings.Repeat("a. ", 2000), "1. 2.%"} {
		checkNotOne(t, s)
	}
}

// The errors of Clauses are told first, whatever the number of clauses is.
func TestErrorsOfClausesComeFirst(t *testing.T) {
	checkForm(t, "a. b", 4)
	checkForm(t, "a. b. )", 6)
	checkForm(t, "a. b. {", 6)
	checkForm(t, ")", 0)
	checkForm(t, "{", 0)
	checkLarge(t, "f(a,a,a,a,a,a,a,a,a). b.", 0)
	checkLarge(t, "a. f(a,a,a,a,a,a,a,a,a).", 3)
	checkLarge(t, "a. b. "+strings.Repeat("(", 1000), 1006)
	checkLarge(t, strings.Repeat("a. ", 3000), 0)
	checkForm(t, "a b", 2)
}

// One is what Clauses is, if it is one clause.
func TestOneIsTheOnlyClause(t *testing.T) {
	r := rand.New(rand.NewSource(206))
	count := map[int]int{}
	for range 20000 {
		s := ""
		for range r.Intn(4) {
			s += anyRead(r, 1+r.Intn(3)).text(r, 1200) + " .\n"
		}
		l, _, e := read.Clauses(s)
		if e != api.OK {
			t.Fatalf("%q: error %d", s, e)
		}
		if len(l) == 1 {
			checkOne(t, s, showClause(l[0]))
		} else {
			checkNotOne(t, s)
		}
		count[len(l)]++
	}
	if count[0] < 2000 || count[1] < 2000 || count[2] < 2000 {
		t.Errorf("too few of one kind: %v", count)
	}
}
