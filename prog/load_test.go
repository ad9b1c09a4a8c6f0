package prog_test

import (
	"fmt"
	"math/rand"
	"strings"
	"testing"

	"finial/api"
	"finial/read"
	"finial/sample"
)

// P11.3: Load.

func TestLoad(t *testing.T) {
	x, y := variable(0), variable(1)
	px, qx := fun("p", x), fun("q", x)
	for s, want := range map[string][]api.Clause{
		"":                            nil,
		" % nothing\n":                nil,
		"p(X) :- q(X), !. q(a).":      {clause(px, 1, call(qx), cut()), clause(fun("q", fun("a")), 0)},
		"a.":                          {clause(fun("a"), 0)},
		"a :- true.":                  {clause(fun("a"), 0)},
		"a :- a.":                     {clause(fun("a"), 0, a)},
		"a :- b, c. b :- c. c.":       {clause(fun("a"), 0, b, c), clause(fun("b"), 0, c), clause(fun("c"), 0)},
		"p(X) :- p(Y), p(X).":         {clause(px, 2, call(fun("p", y)), call(px))},
		"p(Y, X) :- p(X, Y).":         {clause(fun("p", x, y), 2, call(fun("p", y, x)))},
		"p(_) :- p(_), p(X).":         {clause(px, 3, call(fun("p", y)), call(fun("p", variable(2))))},
		"p(X). p(Y) :- write(Y).":     {clause(px, 1), clause(px, 1, does(fun("write", x)))},
		"a :- \\+ a -> ! ; write(X).": {clause(fun("a"), 1, ifs(goals(not(a)), goals(cut()), goals(does(fun("write", x)))))},
		"a :- a -> a.":                {clause(fun("a"), 0, ifs(goals(a), goals(a), goals(failing)))},
		":-(a).":                      {clause(fun(":-", fun("a")), 0)},
		":- .":                        {clause(fun(":-"), 0)},
		":-(a, fail, c).":             {clause(fun(":-", fun("a"), fun("fail"), fun("c")), 0)},
		"':-'(a, (fail, fail)).":      {clause(fun("a"), 0, failing, failing)},
		"(a :- fail).":                {clause(fun("a"), 0, failing)},
		"(p(X)) :- (((q(X)))). q(X).": {clause(px, 1, call(qx)), clause(qx, 1)},
		"X + Y.":                      {clause(fun("+", x, y), 2)},
		"- 1.":                        {clause(fun("-", number(1)), 0)},
		"X - 1 :- X * Y = Z. ":        {clause(fun("-", x, number(1)), 3, does(fun("=", fun("*", x, y), variable(2))))},
		"[]. [X|Y] :- [], [a].":       {clause(fun("[]"), 0), clause(sample.Pair(x, y), 2, call(fun("[]")), call(sample.List(fun("a"))))},
		"true(X). !(X) :- true(X).":   {clause(fun("true", x), 1), clause(fun("!", x), 1, call(fun("true", x)))},
		"fail(X) :- nl, fail.":        {clause(fun("fail", x), 1, does(fun("nl")), failing)},
	} {
		checkLoad(t, s, want...)
		checkLoadByWords(t, s)
	}
}

func TestNoLoad(t *testing.T) {
	for _, x := range []struct {
		s  string
		at int
		e  api.Errno
	}{
		// The errors of read come first, with their bytes.
		{"{", 0, api.ErrForm}, {"a. b", 4, api.ErrForm}, {"a :- b c.", 7, api.ErrForm}, {"X. 1. a b", 8, api.ErrForm}, {"a :- a. a :- )", 13, api.ErrForm},
		{strings.Repeat(" ", 8001), 0, api.ErrLarge}, {"X. " + strings.Repeat("(", 1000), 1003, api.ErrLarge}, {"X. p(1,2,3,4,5,6,7,8,9).", 3, api.ErrLarge},
		// Heads.
		{"X.", 0, api.ErrType}, {"1.", 0, api.ErrType}, {"-1.", 0, api.ErrType}, {"a. X :- a.", 1, api.ErrType}, {"a. 1 :- a.", 1, api.ErrType},
		{"fail.", 0, api.ErrType}, {"nl :- a.", 0, api.ErrType}, {"write(X).", 0, api.ErrType}, {"X = Y.", 0, api.ErrType}, {"a. a. X is Y :- a.", 2, api.ErrType}, {"'=..'(X, Y).", 0, api.ErrType}, {"arg(X, Y, Z).", 0, api.ErrType},
		{"true.", 0, api.ErrType}, {"!.", 0, api.ErrType}, {"a, b.", 0, api.ErrType}, {"a ; b.", 0, api.ErrType}, {"a -> b.", 0, api.ErrType}, {"\\+ a.", 0, api.ErrType}, {"\\+ a :- b.", 0, api.ErrType}, {"a, b :- c.", 0, api.ErrType},
		{"'?'.", 0, api.ErrType}, {"?(X) :- a.", 0, api.ErrType}, {"?(1,2,3,4,5,6,7,8).", 0, api.ErrType}, {"(a :- b) :- c.", 0, api.ErrType}, {"a. ':-'(':-'(a, b), c).", 1, api.ErrType},
		// Goals.
		{"a :- X.", 0, api.ErrType}, {"a :- 1.", 0, api.ErrType}, {"a. a :- a, X.", 1, api.ErrType}, {"a :- (b :- c).", 0, api.ErrType}, {"a :- b ; c.", 0, api.ErrType}, {"a :- \\+ !.", 0, api.ErrType}, {"a :- ?(a).", 0, api.ErrType},
		{"a :- " + strings.Repeat("a, ", 20) + "a.", 0, api.ErrLarge}, {"a. a :- " + strings.Repeat("\\+ ", 10) + "a.", 1, api.ErrLarge}, {"a :- " + strings.Repeat("a, ", 20) + "X.", 0, api.ErrType},
		// The head is told before the goals, and the first clause before later ones, with either error.
		{"1 :- " + strings.Repeat("a, ", 20) + "a.", 0, api.ErrType}, {"a :- X. 1.", 0, api.ErrType}, {"a :- " + strings.Repeat("a, ", 20) + "a. 1.", 0, api.ErrLarge}, {"a. 1. a :- " + strings.Repeat("a, ", 20) + "a.", 1, api.ErrType},
		// What Check says comes last.
		{"a :- b.", 0, api.ErrName}, {"a. a :- \\+ b. c.", 1, api.ErrName}, {"a :- b. a :- X.", 1, api.ErrType}, {"a :- b. b :- p(X). p.", 1, api.ErrName}, {"a :- b(1). b.", 0, api.ErrName},
		{strings.Repeat("a. ", 201), 200, api.ErrLarge}, {strings.Repeat("a. ", 1000), 200, api.ErrLarge}, {"a :- b. " + strings.Repeat("a. ", 200), 200, api.ErrLarge},
		{strings.Repeat("a. ", 250) + "1.", 250, api.ErrType}, {strings.Repeat("a. ", 250) + "a :- " + strings.Repeat("a, ", 20) + "a.", 250, api.ErrLarge}, {strings.Repeat("a. ", 300) + "a :- \\+ !.", 300, api.ErrType},
	} {
		checkNoLoad(t, x.s, x.at, x.e)
		checkLoadByWords(t, x.s)
	}
}

func TestNumberOfLoadedClauses(t *testing.T) {
	for _, n := range []int{1, 199, 200} {
		if p := loaded(t, strings.Repeat("p(X, Y).\n", n)); len(p.Clauses) != n || p.Clauses[n-1].Vars != 2 {
			t.Errorf("%d clauses, not %d", len(p.Clauses), n)
		}
	}
	checkNoLoad(t, strings.Repeat("a. ", 201), 200, api.ErrLarge)
}

// anonymous returns the text of a term with n different variables.
func anonymous(n int) string {
	if n == 1 {
		return "_"
	}
	var l []string
	for i := min(n, 8); i > 0; i-- {
		part := n / i
		l = append(l, anonymous(part))
		n -= part
	}
	return "f(" + strings.Join(l, ",") + ")"
}

// More than 1000 variables are read, but no clause has so many.
func TestNumberOfVariables(t *testing.T) {
	for _, n := range []int{1, 999, 1000} {
		if p := loaded(t, "p("+anonymous(n)+"). q :- p("+anonymous(n)+")."); p.Clauses[0].Vars != n || p.Clauses[1].Vars != n {
			t.Errorf("%d and %d variables, not %d", p.Clauses[0].Vars, p.Clauses[1].Vars, n)
		}
	}
	checkNoLoad(t, "p("+anonymous(1001)+").", 0, api.ErrArg)
	checkNoLoad(t, "p(X) :- p(X), p("+anonymous(999)+"). q :- p("+anonymous(1001)+"). r(X) :- s(X).", 1, api.ErrArg)
	checkNoLoad(t, "r(X) :- s(X). q :- r("+anonymous(1500)+").", 1, api.ErrArg)
	checkNoLoad(t, "q :- r("+anonymous(1500)+"). q :- 1.", 1, api.ErrType)
}

// anyText returns the text of a program whose clauses are any terms, with few faults in their goals.
func anyText(r *rand.Rand) string {
	var b strings.Builder
	for range r.Intn(6) {
		h := []string{"a", "b", "p(A)", "q(A, B)", "q(B, _)", "p(f(C))", "(a)", "'a'", "b"}[r.Intn(9)]
		if r.Intn(20) == 0 {
			h = []string{"X", "1", "fail", "true", "(a, b)", "'?'", "(a :- b)", "write(A)", "{", "f(", "a b"}[r.Intn(11)]
		}
		b.WriteString(h)
		if r.Intn(4) > 0 {
			b.WriteString(" :- " + body(anyBody(r, 1+r.Intn(6), 60)))
		}
		b.WriteString(".\n")
	}
	return b.String()
}

// body returns a text of a term, with parentheses around all that has an operator.
func body(t api.Term) string {
	switch t.Kind {
	case api.Var:
		return string(rune('A' + t.N))
	case api.Num:
		return fmt.Sprint(t.N)
	}
	var l []string
	for _, x := range t.Args {
		l = append(l, body(x))
	}
	switch s := what(t); s {
	case ",/2", ";/2", "->/2", ":-/2", "=/2", "is/2":
		return "(" + l[0] + " " + t.Name + " " + l[1] + ")"
	case "\\+/1":
		return "(\\+ " + l[0] + ")"
	}
	if len(l) == 0 {
		return "'" + t.Name + "'"
	}
	return "'" + t.Name + "'(" + strings.Join(l, ",") + ")"
}

func TestAnyText(t *testing.T) {
	r := rand.New(rand.NewSource(405))
	count := map[api.Errno]int{}
	for range 20000 {
		count[checkLoadByWords(t, anyText(r))]++
	}
	if count[api.OK] < 1000 || count[api.ErrForm] < 100 || count[api.ErrLarge] < 100 || count[api.ErrType] < 1000 || count[api.ErrName] < 300 {
		t.Errorf("errors: %v", count)
	}
}

// All small terms, as clauses: whatever the term is, its goals are those of Goals.
func TestLoadOfTerms(t *testing.T) {
	for _, x := range sample.RightOnes() {
		s := "z :- a, " + body(x) + ". a. b."
		if _, _, e := read.Clauses(s); e == api.OK {
			checkLoadByWords(t, s)
		}
	}
	r := rand.New(rand.NewSource(406))
	for range 3000 {
		x := anyBody(r, 1+r.Intn(4), 30)
		p := "a. b. p(X). q(X, Y). z :- " + body(x) + "."
		if e := checkLoadByWords(t, p); e != api.OK {
			checkLoadByWords(t, body(x)+".")
		}
	}
}
