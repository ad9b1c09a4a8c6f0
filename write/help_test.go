package write_test

import (
	"math/rand"
	"regexp"
	"strconv"
	"strings"
	"testing"

	"finial/api"
	"finial/sample"
	"finial/write"
)

var (
	variable = sample.Variable
	number   = sample.Number
	fun      = sample.Fun
	pair     = sample.Pair
	list     = sample.List
	texts    = sample.Texts
	call     = sample.Call
	does     = sample.Does
	cut      = sample.Cut
	ifs      = sample.If
	not      = sample.Not
	goals    = sample.Goals
)

// long returns a valid term whose text has n bytes.
func long(n int) api.Term {
	if n <= api.MaxName {
		return fun(strings.Repeat("x", n))
	}
	count := min(api.MaxArity, (n-2)/2)
	left := n - len("x()") - (count - 1)
	var l []api.Term
	for i := count; i > 0; i-- {
		part := left / i
		l = append(l, long(part))
		left -= part
	}
	return fun("x", l...)
}

// filled returns a term of x and others, whose text has n bytes; that of x is text.
func filled(x api.Term, text string, n int) api.Term {
	return fun("f", x, long(n-len("f(,)")-len(text)))
}

// bare are the names that need no quotes.
var bare = regexp.MustCompile(`^([a-z][a-zA-Z0-9_]*|[-+*/\\^<>=~:?@#&$]+|!|;|\[\])$`)

func nameByWords(name string) string {
	if bare.MatchString(name) {
		return name
	}
	return "'" + strings.ReplaceAll(name, "'", "''") + "'"
}

// termByWords returns the text that the words of the chapter give to a valid term, however large it is.
func termByWords(t api.Term) string {
	switch t.Kind {
	case api.Var:
		return "_" + strconv.Itoa(t.N)
	case api.Num:
		return strconv.FormatInt(int64(t.N), 10)
	}
	if t.Name == "." && len(t.Args) == 2 {
		return "[" + termByWords(t.Args[0]) + restByWords(t.Args[1]) + "]"
	}
	var l []string
	for _, x := range t.Args {
		l = append(l, termByWords(x))
	}
	if len(l) == 0 {
		return nameByWords(t.Name)
	}
	return nameByWords(t.Name) + "(" + strings.Join(l, ",") + ")"
}

// restByWords returns the text of what stands in a list after one of its elements.
func restByWords(t api.Term) string {
	switch {
	case t.Name == "." && len(t.Args) == 2:
		return "," + termByWords(t.Args[0]) + restByWords(t.Args[1])
	case t.Name == "[]" && len(t.Args) == 0:
		return ""
	}
	return "|" + termByWords(t)
}

// goalsByWords returns the text that the words of the chapter give to goals; valid tells which of their terms are.
func goalsByWords(l []api.Goal, valid func(t api.Term) bool) string {
	var all []string
	for _, g := range l {
		all = append(all, goalByWords(g, valid))
	}
	if all == nil {
		return "true"
	}
	return strings.Join(all, ", ")
}

func goalByWords(g api.Goal, valid func(t api.Term) bool) string {
	a, b, c := g.A, g.B, g.C
	switch g.Kind {
	case 1, 2:
		return anyByWords(g.T, valid)
	case 3:
		return "!"
	case 4:
		return "(" + goalsByWords(a, valid) + " -> " + goalsByWords(b, valid) + " ; " + goalsByWords(c, valid) + ")"
	case 5:
		return "\\+ (" + goalsByWords(a, valid) + ")"
	}
	return "fail"
}

// anyByWords returns the text of any term among goals.
func anyByWords(t api.Term, valid func(t api.Term) bool) string {
	if valid(t) {
		if s := termByWords(t); len(s) <= 8000 {
			return s
		}
	}
	return "?"
}

func clauseByWords(c api.Clause, valid func(t api.Term) bool) string {
	s := anyByWords(c.Head, valid)
	if len(c.Body) > 0 {
		s += " :- " + goalsByWords(c.Body, valid)
	}
	return s + "."
}

// checkTerm asks for the text of t, from Term and among goals and in clauses.
func checkTerm(t *testing.T, x api.Term, want string) {
	t.Helper()
	if s, e := write.Term(x); e != api.OK || s != want {
		t.Errorf("Term of %s: %s, error %d, not %s", sample.Brief(x), brief(s), e, brief(want))
	}
	checkShown(t, x, want)
}

// checkWords asks for the text that the words give to t.
func checkWords(t *testing.T, x api.Term) {
	t.Helper()
	checkTerm(t, x, termByWords(x))
}

// checkError asks for the error of t, and for a ? among goals and in clauses.
func checkError(t *testing.T, x api.Term, want api.Errno) {
	t.Helper()
	if s, e := write.Term(x); e != want || s != "" {
		t.Errorf("Term of %s: %s, error %d, not %d", sample.Brief(x), brief(s), e, want)
	}
	checkShown(t, x, "?")
}

// checkShown asks for this text of t among goals and in clauses.
func checkShown(t *testing.T, x api.Term, want string) {
	t.Helper()
	checkGoals(t, goals(call(x)), want)
	checkGoals(t, goals(does(x), not(call(x))), want+", \\+ ("+want+")")
	checkClause(t, api.Clause{Head: x}, want+".")
	checkClause(t, api.Clause{Head: x, Body: goals(does(x))}, want+" :- "+want+".")
}

func checkGoals(t *testing.T, l []api.Goal, want string) {
	t.Helper()
	if s := write.Goals(l); s != want {
		t.Errorf("Goals: %s, not %s", brief(s), brief(want))
	}
}

func checkClause(t *testing.T, c api.Clause, want string) {
	t.Helper()
	if s := write.Clause(c); s != want {
		t.Errorf("Clause: %s, not %s", brief(s), brief(want))
	}
}

// everyByte returns all bytes that a name may have.
func everyByte() string {
	s := ""
	for b := byte(32); b <= 126; b++ {
		s += string(rune(b))
	}
	return s
}

// names are those that are easily mistaken for something else.
func names() []string {
	return []string{
		"a", "b1", "aB_9", "mod", "is", "true", "fail", "x'", "it's", "A", "Ab", "_", "_1", "0", "1", "-1", "1a", "a b", " ", "a ", " a", "a-b", "a.", "a(", "(", ")", "[", "]", "|", ",", "{", "}", "{}", "()", "[]", "[][]", "[a]", "[ ]",
		".", "..", "=..", ". ", ".a", "-", "\\+", "+", "*", "//", "=", "\\=", "==", ":-", "->", "?", "@<", "#&$", "~^", "--", "-.", "!", "!!", ";", ";;", "!;", "-a", "a-", "'", "''", "'a'", "%", "% a", "\"", "`", "~", "/*", "\\", "\\n", "\\'",
		strings.Repeat("a", 20), strings.Repeat("'", 20), strings.Repeat("-", 20), strings.Repeat(".", 20), strings.Repeat("X", 20),
	}
}

// anyTerm returns a valid term of any names, often a list.
func anyTerm(r *rand.Rand, depth int) api.Term {
	l := names()
	switch k := r.Intn(10); {
	case k < 2:
		return variable([]int{0, 1, 2, 3, 10, 999999}[r.Intn(6)])
	case k < 4:
		return number([]int{0, 1, -1, 7, -10, 12, 1<<63 - 1, 1 - 1<<63}[r.Intn(8)])
	case k == 4 || depth == 1:
		return fun(l[r.Intn(len(l))])
	case k < 8:
		return anyList(r, depth)
	}
	var args []api.Term
	for range 1 + r.Intn(4) {
		args = append(args, anyTerm(r, depth-1))
	}
	return fun(l[r.Intn(len(l))], args...)
}

// anyList returns a term of pairs that ends in any way.
func anyList(r *rand.Rand, depth int) api.Term {
	t := fun("[]")
	if r.Intn(3) == 0 {
		t = anyTerm(r, depth-1)
	}
	for range 1 + r.Intn(4) {
		t = pair(anyTerm(r, depth-1), t)
	}
	return t
}

// anyGoals returns any goals, nested at most so deep.
func anyGoals(r *rand.Rand, deep int) []api.Goal {
	var l []api.Goal
	for range r.Intn(4) {
		g := api.Goal{Kind: 1 + r.Intn(5)}
		if r.Intn(15) == 0 {
			g.Kind = []int{0, -1, 6, 1 << 40}[r.Intn(4)]
		}
		// Also fields that have no meaning for the kind are filled: they must make no difference.
		if g.Kind < 3 || r.Intn(3) == 0 {
			g.T = anyTerm(r, 1+r.Intn(3))
		}
		if deep > 0 && (g.Kind > 3 || r.Intn(3) == 0) {
			g.A, g.B, g.C = anyGoals(r, deep-1), anyGoals(r, deep-1), anyGoals(r, deep-1)
		}
		l = append(l, g)
	}
	return l
}

// brief is a text's beginning and end, for a message.
func brief(s string) string {
	if len(s) > 160 {
		return strconv.Itoa(len(s)) + " bytes " + strconv.Quote(s[:80]) + ".." + strconv.Quote(s[len(s)-80:])
	}
	return strconv.Quote(s)
}
