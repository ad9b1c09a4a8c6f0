package prog_test

import (
	"math/rand"
	"testing"

	"finial/api"
	"finial/sample"
)

// P11.1: Goals.

var (
	a, b, c = call(fun("a")), call(fun("b")), call(fun("c"))
	failing = does(fun("fail"))
	none    []api.Goal
)

// texts asks for the goals of what each text stands for.
func texts(t *testing.T, want map[string][]api.Goal) {
	t.Helper()
	for s, l := range want {
		checkGoals(t, parsed(t, s), l...)
		checkGoalsByWords(t, parsed(t, s))
	}
}

func TestPlainGoals(t *testing.T) {
	x, y := variable(0), variable(1)
	texts(t, map[string][]api.Goal{
		"a":                            {a},
		"p(X, Y)":                      {call(fun("p", x, y))},
		"a, b":                         {a, b},
		"a, b, c":                      {a, b, c},
		"(a, b), c":                    {a, b, c},
		"((a, b), (c, a)), b":          {a, b, c, a, b},
		"true":                         none,
		"true, true":                   none,
		"true, a, true":                {a},
		"!":                            {cut()},
		"a, !, b, !":                   {a, cut(), b, cut()},
		"fail":                         {failing},
		"nl, write(X)":                 {does(fun("nl")), does(fun("write", x))},
		"X = Y":                        {does(fun("=", x, y))},
		"X is Y":                       {does(fun("is", x, y))},
		"functor(X, Y, 1)":             {does(fun("functor", x, y, number(1)))},
		"'=..'(X, Y)":                  {does(fun("=..", x, y))},
		"p(true, (a, !), -1)":          {call(fun("p", fun("true"), fun(",", fun("a"), fun("!")), number(-1)))},
		"write((a :- ?))":              {does(fun("write", fun(":-", fun("a"), fun("?"))))},
		"'X'":                          {call(fun("X"))},
		"[]":                           {call(fun("[]"))},
		"[X]":                          {call(sample.List(x))},
		"X - Y":                        {call(fun("-", x, y))},
		"- X":                          {call(fun("-", x))},
		"true(X)":                      {call(fun("true", x))},
		"!(X)":                         {call(fun("!", x))},
		"','(X), ','(X, Y, X)":         {call(fun(",", x)), call(fun(",", x, y, x))},
		"';', ';'(X), ';'(X, Y, X)":    {call(fun(";")), call(fun(";", x)), call(fun(";", x, y, x))},
		"'->', '->'(X), '->'(X,X,X)":   {call(fun("->")), call(fun("->", x)), call(fun("->", x, x, x))},
		":-, ':-'(X), ':-'(X, Y, X)":   {call(fun(":-")), call(fun(":-", x)), call(fun(":-", x, y, x))},
		"'\\+', '\\+'(X, Y)":           {call(fun("\\+")), call(fun("\\+", x, y))},
		"fail(X), nl(X), write, is, =": {call(fun("fail", x)), call(fun("nl", x)), call(fun("write")), call(fun("is")), call(fun("="))},
		"write(X, Y), var, arg(X, Y)":  {call(fun("write", x, y)), call(fun("var")), call(fun("arg", x, y))},
		"call(X), once(X), (a ',' b)":  {call(fun("call", x)), call(fun("once", x)), a, b},
	})
}

func TestNestedGoals(t *testing.T) {
	x := variable(0)
	texts(t, map[string][]api.Goal{
		"a -> b ; c":                       {ifs(goals(a), goals(b), goals(c))},
		"(a -> b ; c), a":                  {ifs(goals(a), goals(b), goals(c)), a},
		"a, (b -> c ; a)":                  {a, ifs(goals(b), goals(c), goals(a))},
		"a, b -> b, c ; c, a":              {ifs(goals(a, b), goals(b, c), goals(c, a))},
		"a -> b":                           {ifs(goals(a), goals(b), goals(failing))},
		"a -> b ; fail":                    {ifs(goals(a), goals(b), goals(failing))},
		"a -> b ; b -> c ; c":              {ifs(goals(a), goals(b), goals(ifs(goals(b), goals(c), goals(c))))},
		"a -> b ; b -> c":                  {ifs(goals(a), goals(b), goals(ifs(goals(b), goals(c), goals(failing))))},
		"a -> (b -> c)":                    {ifs(goals(a), goals(ifs(goals(b), goals(c), goals(failing))), goals(failing))},
		"(a -> b) -> c ; a":                {ifs(goals(ifs(goals(a), goals(b), goals(failing))), goals(c), goals(a))},
		"true -> true ; true":              {ifs(none, none, none)},
		"true -> true":                     {ifs(none, none, goals(failing))},
		"a -> ! ; b, !":                    {ifs(goals(a), goals(cut()), goals(b, cut()))},
		"a -> !":                           {ifs(goals(a), goals(cut()), goals(failing))},
		"a -> (b -> ! ; !) ; (c -> ! ; !)": {ifs(goals(a), goals(ifs(goals(b), goals(cut()), goals(cut()))), goals(ifs(goals(c), goals(cut()), goals(cut()))))},
		"\\+ a":                            {not(a)},
		"\\+ (a, b), c":                    {not(a, b), c},
		"\\+ \\+ a":                        {not(not(a))},
		"\\+ true":                         {not()},
		"\\+ (a -> b ; c)":                 {not(ifs(goals(a), goals(b), goals(c)))},
		"\\+ p(X) -> write(X) ; \\+ X = 1": {ifs(goals(not(call(fun("p", x)))), goals(does(fun("write", x))), goals(not(does(fun("=", x, number(1))))))},
	})
}

func TestWrongGoals(t *testing.T) {
	for _, s := range []string{
		"X", "1", "-1", "a, X", "X, a", "a, 1", "\\+ X", "\\+ 1", "X -> a ; b", "a -> X ; b", "a -> b ; X", "X -> a", "a -> X", "1 -> a",
		"a ; b", "X ; a", "1 ; a", "(a ; b) ; c", "a ; (b -> c)", "(a, b -> c), (c ; a)", "\\+ (a ; b)", "(a ; b) -> c ; a", "a -> (b ; c) ; a", "a -> b ; (a ; b)",
		"'->'(a) ; b", "'->' ; b", "(!) ; b", "true ; true",
		":- :- :-", "a :- b", "'?'", "?(X)", "?(1, 2, 3, 4, 5, 6, 7, 8)", "\\+ ?", "a, ?",
		"\\+ !", "\\+ (a, !)", "! -> a ; b", "! -> a", "a, ! -> b ; c", "(a -> ! ; b) -> c ; a", "(a -> b ; !) -> c", "\\+ \\+ !", "\\+ (a -> ! ; b)", "\\+ (a -> b ; !)", "\\+ (a -> !)", "a -> \\+ ! ; b",
		"true, X", "!, X", "a, (b, (c, X))", "((X, a), b), c",
	} {
		checkNoGoals(t, parsed(t, s), api.ErrType)
		checkGoalsByWords(t, parsed(t, s))
	}
	for _, x := range sample.WrongOnes() {
		checkNoGoals(t, x, api.ErrArg)
		checkNoGoals(t, fun(",", fun("a"), x), api.ErrArg)
		checkNoGoals(t, fun(",", variable(0), x), api.ErrArg)
	}
}

// times returns n terms x, followed by others.
func times(n int, x api.Term, more ...api.Term) []api.Term {
	return append(sample.Times(n, x), more...)
}

func TestManyGoals(t *testing.T) {
	x, wrong := fun("a"), []api.Term{fun(";", fun("a"), fun("b")), fun("?"), fun(":-", fun("a"), fun("b")), fun(";", variable(0), variable(0))}
	check := func(want api.Errno, l ...api.Term) {
		t.Helper()
		for _, split := range []func(n int) int{right, left, rand.New(rand.NewSource(400)).Intn} {
			if e := checkGoalsByWords(t, joined(split, l...)); e != want {
				t.Errorf("%s: error %d, not %d", sample.Brief(fun("l", l...)), e, want)
			}
		}
	}
	for _, y := range []api.Term{x, fun("nl"), fun("!"), fun("p", variable(3))} {
		check(api.OK, times(19, x, y)...)
		check(api.OK, times(20, y)...)
		check(api.ErrLarge, times(20, x, y)...)
		check(api.ErrLarge, times(21, y)...)
		check(api.ErrLarge, times(40, y)...)
	}
	// true is no goal, and a Var or a Num is told whatever precedes it.
	check(api.OK, times(20, x, times(30, fun("true"))...)...)
	check(api.OK, times(40, fun("true"), times(20, x)...)...)
	check(api.ErrLarge, times(20, x, fun("true"), x)...)
	check(api.ErrType, times(20, x, variable(1))...)
	check(api.ErrType, times(20, x, number(1))...)
	check(api.ErrType, times(20, x, variable(1), x)...)
	check(api.ErrLarge, times(21, x, variable(1))...)
	check(api.ErrLarge, times(20, x, x, number(1))...)
	for _, y := range wrong {
		check(api.ErrType, y)
		check(api.ErrType, times(19, x, y)...)
		check(api.ErrLarge, times(20, x, y)...)
		check(api.ErrLarge, times(20, x, x, y)...)
		check(api.ErrType, times(19, x, y, x, x)...)
	}
	// Goals inside others count, from their beginning on.
	check(api.OK, times(19, x, fun("\\+", fun("true")))...)
	check(api.OK, times(18, x, fun("\\+", x))...)
	check(api.ErrLarge, times(19, x, fun("\\+", x))...)
	check(api.ErrLarge, times(20, x, fun("\\+", variable(0)))...)
	check(api.ErrType, times(19, x, fun("\\+", variable(0)))...)
	check(api.ErrType, times(18, x, fun("\\+", fun("!")))...)
	check(api.ErrLarge, times(19, x, fun("\\+", fun("!")))...)
	check(api.OK, fun("\\+", joined(right, times(19, x)...)))
	check(api.ErrLarge, fun("\\+", joined(right, times(20, x)...)))
	check(api.OK, times(9, x, fun("\\+", joined(left, times(5, x)...)), fun("\\+", joined(left, times(4, x)...)))...)
	check(api.ErrLarge, times(10, x, fun("\\+", joined(left, times(5, x)...)), fun("\\+", joined(left, times(4, x)...)))...)
}

// The fail of a -> without a ; is counted after its b.
func TestFailIsCounted(t *testing.T) {
	x, yes := fun("a"), fun("true")
	check := func(want api.Errno, l ...api.Term) {
		t.Helper()
		if e := checkGoalsByWords(t, joined(right, l...)); e != want {
			t.Errorf("%s: error %d, not %d", sample.Brief(fun("l", l...)), e, want)
		}
	}
	check(api.OK, times(18, x, fun("->", yes, yes))...)
	check(api.ErrLarge, times(19, x, fun("->", yes, yes))...)
	check(api.OK, times(19, x, fun(";", fun("->", yes, yes), yes))...)
	check(api.OK, times(17, x, fun("->", x, yes))...)
	check(api.ErrLarge, times(18, x, fun("->", x, yes))...)
	check(api.OK, times(17, x, fun("->", yes, x))...)
	check(api.ErrLarge, times(18, x, fun("->", yes, x))...)
	check(api.ErrType, times(18, x, fun("->", x, variable(0)))...)
	check(api.ErrType, times(18, x, fun("->", variable(0), x))...)
	check(api.ErrType, times(19, x, fun("->", variable(0), x))...)
	check(api.ErrLarge, times(20, x, fun("->", variable(0), x))...)
	check(api.ErrType, times(18, x, fun("->", yes, fun("?")))...)
	check(api.ErrLarge, times(19, x, fun("->", yes, fun("?")))...)
	check(api.ErrType, times(18, x, fun("->", yes, yes), variable(0))...)
	check(api.ErrLarge, times(19, x, fun("->", yes, yes), variable(0))...)
	check(api.OK, times(16, x, fun("->", x, x))...)
	check(api.ErrLarge, times(17, x, fun("->", x, x))...)
}

// nestedIn returns x inside n goals of this kind: the part of an If, or a Not.
func nestedIn(kind string, n int, x api.Term) api.Term {
	yes := fun("true")
	for range n {
		x = map[string]api.Term{
			"not":       fun("\\+", x),
			"condition": fun(";", fun("->", x, yes), yes),
			"then":      fun(";", fun("->", yes, x), yes),
			"else":      fun(";", fun("->", yes, yes), x),
		}[kind]
	}
	return x
}

func TestDeepGoals(t *testing.T) {
	check := func(want api.Errno, x api.Term) {
		t.Helper()
		if e := checkGoalsByWords(t, x); e != want {
			t.Errorf("%s: error %d, not %d", sample.Brief(x), e, want)
		}
	}
	yes := fun("true")
	for _, kind := range []string{"not", "condition", "then", "else"} {
		cutFault := api.OK
		if kind == "not" || kind == "condition" {
			cutFault = api.ErrType
		}
		for _, x := range []api.Term{fun("a"), fun("nl"), fun("\\+", yes), fun(";", fun("->", yes, yes), yes), joined(right, fun("a"), yes, fun("b"))} {
			check(api.OK, nestedIn(kind, 9, x))
			check(api.ErrLarge, nestedIn(kind, 10, x))
			check(api.ErrLarge, nestedIn(kind, 11, x))
		}
		check(cutFault, nestedIn(kind, 9, fun("!")))
		check(api.ErrLarge, nestedIn(kind, 10, fun("!")))
		check(api.OK, nestedIn(kind, 10, yes))
		check(api.ErrLarge, nestedIn(kind, 11, yes))
		check(api.OK, nestedIn(kind, 8, fun("->", yes, yes)))
		check(api.ErrLarge, nestedIn(kind, 9, fun("->", yes, yes)))
		check(api.ErrType, nestedIn(kind, 9, fun("->", yes, variable(0))))
		check(api.ErrType, nestedIn(kind, 9, variable(0)))
		check(api.ErrType, nestedIn(kind, 10, variable(0)))
		check(api.ErrType, nestedIn(kind, 10, number(0)))
		check(api.ErrLarge, nestedIn(kind, 11, variable(0)))
		check(api.ErrType, nestedIn(kind, 9, fun("?")))
		check(api.ErrLarge, nestedIn(kind, 10, fun("?")))
		check(api.ErrLarge, nestedIn(kind, 10, fun(";", fun("a"), fun("b"))))
		check(api.ErrLarge, fun(",", nestedIn(kind, 10, fun("a")), variable(0)))
		check(api.ErrType, fun(",", variable(0), nestedIn(kind, 10, fun("a"))))
		check(api.OK, fun(",", nestedIn(kind, 9, fun("a")), nestedIn(kind, 9, yes)))
		check(api.OK, fun(",", nestedIn(kind, 9, fun("a")), nestedIn(kind, 9, fun("a"))))
		check(api.ErrLarge, joined(right, nestedIn(kind, 9, fun("a")), nestedIn(kind, 9, fun("a")), fun("a")))
	}
	check(api.OK, nestedIn("not", 3, nestedIn("then", 3, nestedIn("else", 3, fun("a")))))
	check(api.ErrLarge, nestedIn("not", 3, nestedIn("then", 3, nestedIn("else", 4, fun("a")))))
}

// All small terms, of leaves of each sort and of all control that has goals.
func TestAllSmallTerms(t *testing.T) {
	leaves := []api.Term{fun("a"), fun("!"), fun("true"), variable(0), fun("nl")}
	grow := func(l []api.Term) []api.Term {
		more := append([]api.Term{}, leaves...)
		for _, x := range l {
			more = append(more, fun("\\+", x))
			for _, y := range l {
				more = append(more, fun(",", x, y), fun(";", x, y), fun("->", x, y))
			}
		}
		return more
	}
	count := map[api.Errno]int{}
	for _, x := range grow(grow(leaves)) {
		count[checkGoalsByWords(t, x)]++
	}
	if len(count) != 2 || count[api.OK] < 2000 || count[api.ErrType] < 2000 {
		t.Errorf("errors: %v", count)
	}
}

func TestAnyGoals(t *testing.T) {
	r := rand.New(rand.NewSource(401))
	count := map[api.Errno]int{}
	for range 40000 {
		count[checkGoalsByWords(t, anyBody(r, 1+r.Intn(12), 1+r.Intn(200)))]++
	}
	if count[api.OK] < 5000 || count[api.ErrType] < 5000 || count[api.ErrLarge] < 2000 {
		t.Errorf("errors: %v", count)
	}
}
