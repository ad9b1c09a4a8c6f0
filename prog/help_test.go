package prog_test

import (
	"math/rand"
	"slices"
	"strconv"
	"strings"
	"testing"

	"finial/api"
	"finial/prog"
	"finial/read"
	"finial/sample"
	"finial/term"
)

var (
	variable = sample.Variable
	number   = sample.Number
	fun      = sample.Fun
	call     = sample.Call
	does     = sample.Does
	cut      = sample.Cut
	ifs      = sample.If
	not      = sample.Not
	goals    = sample.Goals
	clause   = sample.Clause
	program  = sample.Program

	wrongOnes = sample.WrongOnes()[:40]
)

// The names of the chapter, each with a number of Args.
var (
	builtins = strings.Fields(`=/2 \=/2 ==/2 \==/2 @</2 @>/2 @=</2 @>=/2 is/2 =:=/2 =\=/2 </2 >/2 =</2 >=/2 =../2 fail/0 nl/0 var/1 nonvar/1 atom/1 integer/1 write/1 functor/3 arg/3`)
	controls = strings.Fields(`true/0 !/0 ,/2 ;/2 ->/2 \+/1 :-/2`)
)

// signature returns a name with a number of Args.
func signature(name string, args int) string { return name + "/" + strconv.Itoa(args) }

// what returns the signature of a Fun, and otherwise var or num.
func what(t api.Term) string {
	switch t.Kind {
	case api.Var:
		return "var"
	case api.Num:
		return "num"
	}
	return signature(t.Name, len(t.Args))
}

func isBuiltin(t api.Term) bool { return slices.Contains(builtins, what(t)) }

func isControl(t api.Term) bool { return slices.Contains(controls, what(t)) || t.Name == "?" }

func isUser(t api.Term) bool { return t.Kind == api.Fun && !isBuiltin(t) && !isControl(t) }

// place is what has a part of a term that no goal has, or where a goal begins.
type place struct {
	what   string // goal, no goal (a Var or a Num), or not permitted
	inside int
}

// places returns what the words of the chapter say of the parts of a term, from the left.
func places(t api.Term, inside int, condition bool) []place {
	here := place{"goal", inside}
	all := func(first, second, third []place) []place {
		return slices.Concat([]place{here}, first, second, third)
	}
	switch what(t) {
	case "var", "num":
		return []place{{"no goal", inside}}
	case "true/0":
		return nil
	case ",/2":
		return slices.Concat(places(t.Args[0], inside, condition), places(t.Args[1], inside, condition))
	case "->/2":
		return all(places(t.Args[0], inside+1, true), places(t.Args[1], inside+1, condition), []place{{"goal", inside + 1}})
	case "\\+/1":
		return all(places(t.Args[0], inside+1, true), nil, nil)
	case ";/2":
		if x := t.Args[0]; what(x) == "->/2" {
			return all(places(x.Args[0], inside+1, true), places(x.Args[1], inside+1, condition), places(t.Args[1], inside+1, condition))
		}
	}
	if isControl(t) && (condition || t.Name != "!") {
		here.what = "not permitted"
	}
	return []place{here}
}

// faultByWords returns the first error of the places.
func faultByWords(l []place) api.Errno {
	before := 0
	for _, p := range l {
		switch {
		case p.what == "no goal":
			return 5
		case before >= 20 || p.inside >= 10:
			return 3
		case p.what == "not permitted":
			return 5
		}
		before++
	}
	return 0
}

// goalsByWords returns the goals of a term that has no faults.
func goalsByWords(t api.Term) []api.Goal {
	otherwise := fun("fail")
	switch what(t) {
	case "true/0":
		return nil
	case ",/2":
		return slices.Concat(goalsByWords(t.Args[0]), goalsByWords(t.Args[1]))
	case "!/0":
		return goals(cut())
	case "\\+/1":
		return goals(not(goalsByWords(t.Args[0])...))
	case ";/2":
		t, otherwise = t.Args[0], t.Args[1]
		fallthrough
	case "->/2":
		return goals(ifs(goalsByWords(t.Args[0]), goalsByWords(t.Args[1]), goalsByWords(otherwise)))
	}
	if isBuiltin(t) {
		return goals(does(t))
	}
	return goals(call(t))
}

// nested is a goal among others: how deep, and whether it is anywhere inside the A of an If or of a Not.
type nested struct {
	g         api.Goal
	deep      int
	condition bool
}

// unnest returns all goals, those inside others included; it does not look into what lies deeper than 12.
func unnest(l []api.Goal, deep int, condition bool) []nested {
	var all []nested
	if deep > 12 {
		return nil
	}
	for _, g := range l {
		all = append(all, nested{g, deep, condition})
		all = append(all, unnest(g.A, deep+1, true)...)
		all = append(all, unnest(g.B, deep+1, condition)...)
		all = append(all, unnest(g.C, deep+1, condition)...)
	}
	return all
}

// rightByWords reports whether a clause is valid.
func rightByWords(c api.Clause) bool {
	all := unnest(c.Body, 1, false)
	terms := []api.Term{c.Head}
	right := isUser(c.Head) && c.Vars >= 0 && c.Vars <= 1000 && len(all) <= 20
	for _, x := range all {
		noTerm := sample.Alike(x.g.T, api.Term{})
		right = right && x.deep <= 10
		switch a, b, c := len(x.g.A), len(x.g.B), len(x.g.C); x.g.Kind {
		case 1:
			right = right && isUser(x.g.T) && a+b+c == 0
			terms = append(terms, x.g.T)
		case 2:
			right = right && x.g.T.Kind == api.Fun && isBuiltin(x.g.T) && a+b+c == 0
			terms = append(terms, x.g.T)
		case 3:
			right = right && noTerm && !x.condition && a+b+c == 0
		case 4:
			right = right && noTerm
		case 5:
			right = right && noTerm && b+c == 0
		default:
			right = false
		}
	}
	for _, x := range terms {
		right = right && term.Right(x) && slices.Max(append(term.Vars([]api.Term{x}), -1)) < c.Vars
	}
	return right
}

// heads returns the predicates of a program.
func heads(p api.Prog) []string {
	var l []string
	for _, c := range p.Clauses {
		l = append(l, signature(c.Head.Name, len(c.Head.Args)))
	}
	return l
}

// thereByWords reports whether all predicates that are called are among those of p.
func thereByWords(l []api.Goal, p api.Prog) bool {
	known := heads(p)
	for _, g := range sample.AllGoals(l) {
		if g.Kind == 1 && !slices.Contains(known, signature(g.T.Name, len(g.T.Args))) {
			return false
		}
	}
	return true
}

// checkByWords returns what the words say of a program.
func checkByWords(p api.Prog) (int, api.Errno) {
	if len(p.Clauses) > 200 {
		return 200, 3
	}
	if i := slices.IndexFunc(p.Clauses, func(c api.Clause) bool { return !rightByWords(c) }); i >= 0 {
		return i, 1
	}
	if i := slices.IndexFunc(p.Clauses, func(c api.Clause) bool { return !thereByWords(c.Body, p) }); i >= 0 {
		return i, 9
	}
	return 0, 0
}

// loadByWords returns what the words say of the text of a program.
func loadByWords(s string) (api.Prog, int, api.Errno) {
	l, at, e := read.Clauses(s)
	if e != 0 {
		return api.Prog{}, at, e
	}
	var p api.Prog
	for i, x := range l {
		c := clause(x.T, len(x.Names))
		e := api.Errno(0)
		if what(x.T) == ":-/2" {
			c.Head = x.T.Args[0]
			if e = faultByWords(places(x.T.Args[1], 0, false)); e == 0 {
				c.Body = goalsByWords(x.T.Args[1])
			}
		}
		if !isUser(c.Head) {
			e = 5
		}
		if e != 0 {
			return api.Prog{}, i, e
		}
		p.Clauses = append(p.Clauses, c)
	}
	if at, e = checkByWords(p); e != 0 {
		p = api.Prog{}
	}
	return p, at, e
}

// checkGoals asks for the goals of a term.
func checkGoals(t *testing.T, x api.Term, want ...api.Goal) {
	t.Helper()
	l, e := prog.Goals(x)
	if e != api.OK || sample.TextOfGoals(l) != sample.TextOfGoals(want) {
		t.Errorf("Goals of %s: %s, error %d, not %s", sample.Brief(x), briefGoals(l), e, briefGoals(want))
	}
}

// checkNoGoals asks for the error of a term that has no goals.
func checkNoGoals(t *testing.T, x api.Term, want api.Errno) {
	t.Helper()
	if l, e := prog.Goals(x); e != want || len(l) != 0 {
		t.Errorf("Goals of %s: %s, error %d, not %d", sample.Brief(x), briefGoals(l), e, want)
	}
}

// checkGoalsByWords asks for what the words say of a term, and returns the error.
func checkGoalsByWords(t *testing.T, x api.Term) api.Errno {
	t.Helper()
	e := faultByWords(places(x, 0, false))
	if !term.Right(x) {
		e = 1
	}
	if e != api.OK {
		checkNoGoals(t, x, e)
	} else {
		checkGoals(t, x, goalsByWords(x)...)
	}
	return e
}

// parsed returns the term of a text, which is followed by an End.
func parsed(t *testing.T, s string) api.Term {
	t.Helper()
	c, at, e := read.One(s + " .")
	if e != api.OK {
		t.Fatalf("One of %q: error %d at %d", s, e, at)
	}
	return c.T
}

// loaded returns the program of a text.
func loaded(t *testing.T, s string) api.Prog {
	t.Helper()
	p, at, e := prog.Load(s)
	if e != api.OK {
		t.Fatalf("Load of %s: error %d at %d", brief(s), e, at)
	}
	return p
}

func checkClause(t *testing.T, c api.Clause, want bool) {
	t.Helper()
	if prog.Clause(c) != want {
		t.Errorf("Clause of %s: %t", brief(sample.TextOfClause(c)), !want)
	}
}

func checkThere(t *testing.T, l []api.Goal, p api.Prog, want bool) {
	t.Helper()
	if prog.There(l, p) != want {
		t.Errorf("There of %s, %s: %t", briefGoals(l), brief(sample.TextOfProgram(p)), !want)
	}
}

func checkCheck(t *testing.T, p api.Prog, at int, e api.Errno) {
	t.Helper()
	if i, f := prog.Check(p); i != at || f != e {
		t.Errorf("Check of %s: error %d at %d, not %d at %d", brief(sample.TextOfProgram(p)), f, i, e, at)
	}
}

// checkLoad asks for the program of a text.
func checkLoad(t *testing.T, s string, want ...api.Clause) {
	t.Helper()
	p, at, e := prog.Load(s)
	got, text := sample.TextOfProgram(p), sample.TextOfProgram(program(want...))
	if e != api.OK || at != 0 || got != text {
		t.Errorf("Load of %s: %s, error %d at %d, not %s", brief(s), brief(got), e, at, brief(text))
	}
}

// checkNoLoad asks for the error of a text, and for its place.
func checkNoLoad(t *testing.T, s string, at int, e api.Errno) {
	t.Helper()
	if p, i, f := prog.Load(s); i != at || f != e || len(p.Clauses) != 0 {
		t.Errorf("Load of %s: %d clauses, error %d at %d, not %d at %d", brief(s), len(p.Clauses), f, i, e, at)
	}
}

// checkLoadByWords asks for what the words say of a text, and returns the error.
func checkLoadByWords(t *testing.T, s string) api.Errno {
	t.Helper()
	p, at, e := loadByWords(s)
	if e != api.OK {
		checkNoLoad(t, s, at, e)
	} else {
		checkLoad(t, s, p.Clauses...)
	}
	return e
}

// checkQuery asks for the goals of a query, and for the names of its variables.
func checkQuery(t *testing.T, s string, p api.Prog, names []string, want ...api.Goal) {
	t.Helper()
	c, l, at, e := prog.Query(s, p)
	n := len(names)
	text := sample.TextOfClause(clause(fun("?", sample.Variables(0, n)...), n, want...))
	if got := sample.TextOfClause(c); e != api.OK || at != 0 || got != text || !slices.Equal(l, names) {
		t.Errorf("Query of %s: %s, %q, error %d at %d, not %s, %q", brief(s), brief(got), l, e, at, brief(text), names)
	}
}

// checkNoQuery asks for the error of a query, and for its place.
func checkNoQuery(t *testing.T, s string, p api.Prog, at int, e api.Errno) {
	t.Helper()
	c, l, i, f := prog.Query(s, p)
	if i != at || f != e || sample.TextOfClause(c) != sample.TextOfClause(api.Clause{}) || len(l) != 0 {
		t.Errorf("Query of %s: %s, %q, error %d at %d, not %d at %d", brief(s), brief(sample.TextOfClause(c)), l, f, i, e, at)
	}
}

// joined returns the term of all of these, separated by commas, which are nested to the right or in any way.
func joined(split func(n int) int, l ...api.Term) api.Term {
	if len(l) == 1 {
		return l[0]
	}
	n := 1 + split(len(l)-1)
	return fun(",", joined(split, l[:n]...), joined(split, l[n:]...))
}

// right splits so that everything is nested to the right, and left so that it is to the left.
func right(int) int { return 0 }

func left(n int) int { return n - 1 }

// anyBody returns a term with as many goals as there are, mostly; fault tells how rarely there are others.
func anyBody(r *rand.Rand, depth, fault int) api.Term {
	part := func() api.Term { return anyBody(r, depth-1, fault) }
	if r.Intn(fault) == 0 {
		l := []api.Term{variable(r.Intn(3)), number(1), fun(";", fun("a"), fun("b")), fun(":-", fun("a"), fun("b")), fun("?"), fun("?", variable(0)), fun("->"), fun("!"), fun("!", fun("a"))}
		return l[r.Intn(len(l))]
	}
	if depth == 1 {
		return anyLeaf(r)
	}
	switch r.Intn(12) {
	case 0, 1, 2:
		return fun(",", part(), part())
	case 3, 4:
		return fun(";", fun("->", part(), part()), part())
	case 5:
		return fun("->", part(), part())
	case 6, 7:
		return fun("\\+", part())
	}
	return anyLeaf(r)
}

// anyLeaf returns a term that is no control, or is true or !.
func anyLeaf(r *rand.Rand) api.Term {
	l := []api.Term{
		fun("a"), fun("b"), fun("p", variable(r.Intn(3))), fun("q", variable(r.Intn(3)), variable(r.Intn(3))), fun("p", fun("f", variable(0))),
		fun("fail"), fun("nl"), fun("write", variable(r.Intn(3))), fun("=", variable(0), number(1)), fun("is", variable(0), fun("+", number(1), variable(1))),
		fun("true"), fun("true"), fun("!"),
	}
	return l[r.Intn(len(l))]
}

// anyGoals returns valid goals, nested at most so deep.
func anyGoals(r *rand.Rand, deep int, condition bool) []api.Goal {
	var l []api.Goal
	for range r.Intn(4) {
		switch k := r.Intn(8); {
		case k < 3 || deep == 1:
			l = append(l, call([]api.Term{fun("a"), fun("p", variable(r.Intn(3))), fun("q", variable(0), fun("f", variable(1)))}[r.Intn(3)]))
		case k < 5:
			l = append(l, does([]api.Term{fun("fail"), fun("write", variable(r.Intn(3))), fun("=", variable(0), number(1))}[r.Intn(3)]))
		case k == 5 && !condition:
			l = append(l, cut())
		case k == 6:
			l = append(l, ifs(anyGoals(r, deep-1, true), anyGoals(r, deep-1, condition), anyGoals(r, deep-1, condition)))
		default:
			l = append(l, not(anyGoals(r, deep-1, true)...))
		}
	}
	return l
}

// anyClause returns a clause of three variables, which is mostly valid.
func anyClause(r *rand.Rand) api.Clause {
	h := []api.Term{fun("a"), fun("p", variable(0)), fun("q", variable(1), fun("g", variable(2))), fun("b")}[r.Intn(4)]
	return clause(h, 3, anyGoals(r, 1+r.Intn(3), false)...)
}

// spoil changes one field of one goal of l, which is not empty, to anything.
func spoil(r *rand.Rand, l []api.Goal) {
	g := &l[r.Intn(len(l))]
	switch r.Intn(9) {
	case 0:
		g.Kind = r.Intn(8) - 1
	case 1:
		g.T = wrongOnes[r.Intn(len(wrongOnes))]
	case 2:
		g.T = anyLeaf(r)
	case 3:
		g.A = anyGoals(r, 2, false)
	case 4:
		g.B = anyGoals(r, 2, true)
	case 5:
		g.C = anyGoals(r, 2, false)
	case 6:
		g.A = slices.Concat(g.A, goals(cut()))
	default:
		for _, inside := range [][]api.Goal{g.A, g.B, g.C} {
			if len(inside) > 0 {
				spoil(r, inside)
			}
		}
	}
}

// brief is a text's beginning and end, for a message.
func brief(s string) string {
	if len(s) > 400 {
		return strconv.Itoa(len(s)) + " bytes " + strconv.Quote(s[:200]) + ".." + strconv.Quote(s[len(s)-200:])
	}
	return strconv.Quote(s)
}

func briefGoals(l []api.Goal) string { return brief(sample.TextOfGoals(l)) }
