package prog_test

import (
	"math/rand"
	"strings"
	"testing"

	"finial/api"
	"finial/read"
	"finial/sample"
)

// P11.4: Query.

func names(s string) []string { return strings.Fields(s) }

func TestQuery(t *testing.T) {
	p := loaded(t, "a. b :- a. p(X) :- q(X, X). q(X, Y) :- p(X), p(Y). p. c(1,2,3,4,5,6,7,8).")
	x, y := variable(0), variable(1)
	checkQuery(t, "a.", p, nil, a)
	checkQuery(t, "a, b.", p, nil, a, b)
	checkQuery(t, "true.", p, nil)
	checkQuery(t, "true.", api.Prog{}, nil)
	checkQuery(t, "!.", p, nil, cut())
	checkQuery(t, "a, !, a.", p, nil, a, cut(), a)
	checkQuery(t, "p(X).", p, names("X"), call(fun("p", x)))
	checkQuery(t, "p(Long_Name1).", p, names("Long_Name1"), call(fun("p", x)))
	checkQuery(t, "p(X), q(Y, X), X = Y.", p, names("X Y"), call(fun("p", x)), call(fun("q", y, x)), does(fun("=", x, y)))
	checkQuery(t, "q(Y, X).", p, names("Y X"), call(fun("q", x, y)))
	checkQuery(t, "p(_).", p, []string{""}, call(fun("p", x)))
	checkQuery(t, "q(_, X), p(_), q(_1, _X).", p, []string{"", "X", "", "_1", "_X"}, call(fun("q", x, y)), call(fun("p", variable(2))), call(fun("q", variable(3), variable(4))))
	checkQuery(t, "a -> p(X) ; \\+ b.", p, names("X"), ifs(goals(a), goals(call(fun("p", x))), goals(not(b))))
	checkQuery(t, "X is 1 + Y.", api.Prog{}, names("X Y"), does(fun("is", x, fun("+", number(1), y))))
	checkQuery(t, "write('?'), nl.", api.Prog{}, nil, does(fun("write", fun("?"))), does(fun("nl")))
	checkQuery(t, "c(A, B, C, D, E, F, G, H).", p, names("A B C D E F G H"), call(fun("c", sample.Variables(0, 8)...)))
	checkQuery(t, "c(H, G, F, E, D, C, B, A), c(A, A, A, A, A, A, A, A).", p, names("H G F E D C B A"), call(fun("c", sample.Variables(0, 8)...)), call(fun("c", sample.Times(8, variable(7))...)))
	checkQuery(t, "% first\n a. % then", p, nil, a)
	checkQuery(t, strings.Repeat("a, ", 19)+"a.", p, nil, a, a, a, a, a, a, a, a, a, a, a, a, a, a, a, a, a, a, a, a)
}

func TestNoQuery(t *testing.T) {
	p := loaded(t, "a. p(X).")
	for _, x := range []struct {
		s  string
		at int
		e  api.Errno
	}{
		{"", 0, api.ErrForm}, {"a", 1, api.ErrForm}, {"a. a.", 5, api.ErrForm}, {"% a.", 4, api.ErrForm}, {"p(X Y).", 4, api.ErrForm}, {"a b.", 2, api.ErrForm}, {"{", 0, api.ErrForm}, {"?- a.", 3, api.ErrForm},
		{strings.Repeat(" ", 8001), 0, api.ErrLarge}, {" p(1,2,3,4,5,6,7,8,9).", 1, api.ErrLarge}, {strings.Repeat("(", 1000), 1000, api.ErrLarge}, {"X. p(1,2,3,4,5,6,7,8,9).", 3, api.ErrLarge},
		{"X.", 0, api.ErrType}, {"1.", 0, api.ErrType}, {"p(X), X.", 0, api.ErrType}, {"a :- a.", 0, api.ErrType}, {"a ; a.", 0, api.ErrType}, {"\\+ !.", 0, api.ErrType}, {"! -> a ; a.", 0, api.ErrType}, {"?(X).", 0, api.ErrType}, {"'?'.", 0, api.ErrType},
		{strings.Repeat("a, ", 20) + "a.", 0, api.ErrLarge}, {strings.Repeat("a, ", 20) + "X.", 0, api.ErrType}, {strings.Repeat("\\+ ", 10) + "a.", 0, api.ErrLarge},
		{"p(_), p(_), p(_), p(_), p(_), p(_), p(_), p(_), p(_).", 0, api.ErrLarge}, {"p(f(A, B, C, D, E, F, G, H)), p(I).", 0, api.ErrLarge}, {"write(f(A, B, C, D, E, F, G, f(H, I))).", 0, api.ErrLarge},
		{"b.", 0, api.ErrName}, {"a, p(X), p(X, Y).", 0, api.ErrName}, {"a(X).", 0, api.ErrName}, {"p.", 0, api.ErrName}, {"a, \\+ (a -> a ; b).", 0, api.ErrName}, {"a -> b.", 0, api.ErrName},
		// One after the other: the text, the goals, the variables, the names.
		{"X, p(1,2,3,4,5,6,7,8,9).", 0, api.ErrLarge}, {"b, X b.", 5, api.ErrForm}, {"b, f(A, B, C, D, E, F, G, H, I).", 0, api.ErrLarge}, {"b(A, B, C, D, E, F, G, H), X.", 0, api.ErrType}, {"b(A, B, C, D, E, F, G, f(H, I)), 1.", 0, api.ErrType}, {"b(A, B, C, D, E, F, G, f(H, I)).", 0, api.ErrLarge}, {"b, X.", 0, api.ErrType}, {"b, \\+ !.", 0, api.ErrType},
	} {
		checkNoQuery(t, x.s, p, x.at, x.e)
	}
	// The program is checked before the text is looked at.
	many := program(append(facts(200), clause(fun("a"), 0))...)
	for _, s := range []string{"", "a.", "b.", "{", "X.", "1. 2.", "p(A, B, C, D, E, F, G, H), p(I)."} {
		checkNoQuery(t, s, many, 200, api.ErrLarge)
		for i := range 4 {
			checkNoQuery(t, s, program(append(facts(i), api.Clause{}, clause(fun("a"), 0))...), i, api.ErrArg)
			checkNoQuery(t, s, program(append(facts(i), clause(fun("z"), 0, call(fun("y"))), clause(fun("a"), 0))...), i, api.ErrName)
		}
	}
}

// queryByWords asks for what the words say of the query of a valid program.
func queryByWords(t *testing.T, s string, p api.Prog) api.Errno {
	t.Helper()
	x, at, e := read.One(s)
	if e == 0 {
		e = faultByWords(places(x.T, 0, false))
	}
	if e == 0 && len(x.Names) > 8 {
		e = 3
	}
	if e == 0 && !thereByWords(goalsByWords(x.T), p) {
		e = 9
	}
	if e != 0 {
		checkNoQuery(t, s, p, at, e)
	} else {
		checkQuery(t, s, p, x.Names, goalsByWords(x.T)...)
	}
	return e
}

func TestAnyQuery(t *testing.T) {
	programs := []api.Prog{{}, loaded(t, "a. b."), loaded(t, "a. b :- a. p(X) :- q(X, X). q(X, Y) :- p(X), p(Y).")}
	r := rand.New(rand.NewSource(407))
	count := map[api.Errno]int{}
	for range 20000 {
		s := body(anyBody(r, 1+r.Intn(6), 60))
		for range r.Intn(3) * r.Intn(5) {
			s = "p(_), " + s
		}
		if r.Intn(12) > 0 {
			s += "."
		}
		count[queryByWords(t, s, programs[r.Intn(3)])]++
	}
	if count[api.OK] < 1000 || count[api.ErrForm] < 300 || count[api.ErrLarge] < 300 || count[api.ErrType] < 1000 || count[api.ErrName] < 1000 {
		t.Errorf("errors: %v", count)
	}
}
