package term_test

import (
	"math"
	"strconv"
	"strings"

	"finial/api"
)

func variable(n int) api.Term { return api.Term{Kind: api.Var, N: n} }

func number(n int) api.Term { return api.Term{Kind: api.Num, N: n} }

func fun(name string, l ...api.Term) api.Term { return api.Term{Kind: api.Fun, Name: name, Args: l} }

// times returns n terms x.
func times(n int, x api.Term) []api.Term {
	var l []api.Term
	for range n {
		l = append(l, x)
	}
	return l
}

// deep returns x inside n Funs of one Arg.
func deep(n int, x api.Term) api.Term {
	for range n {
		x = fun("f", x)
	}
	return x
}

// sized returns a term of n terms in all, whose depth is small; its leaves are x.
func sized(n int, x api.Term) api.Term {
	if n == 1 {
		return x
	}
	left := n - 1
	var l []api.Term
	for i := api.MaxArity; i > 0 && left > 0; i-- {
		part := (left + i - 1) / i
		l = append(l, sized(part, x))
		left -= part
	}
	return fun("f", l...)
}

// spine returns n Funs, each but the last one with the next one as its last Arg, after width others that are x.
func spine(n, width int, x api.Term) api.Term {
	t := fun("s")
	for range n - 1 {
		t = fun("s", append(times(width, x), t)...)
	}
	return t
}

// rightOnes returns valid terms of all kinds.
func rightOnes() []api.Term {
	return []api.Term{
		variable(0), variable(7), variable(api.MaxVar - 1), variable(api.MaxVar / 2),
		number(0), number(-1), number(math.MinInt), number(math.MaxInt), number(api.MaxVar),
		fun("a"), fun("_3"), fun("[]"), fun("'"), fun(" "), fun("~"), fun("A b(,"), fun(strings.Repeat("x", api.MaxName)),
		fun("f", variable(3), fun("g", variable(1), variable(3))),
		fun("f", variable(1), variable(0), variable(2), variable(1)),
		fun("f", number(3), variable(3), fun("g", number(4))),
		fun("f", variable(9), fun("f", variable(8), fun("f", variable(7)), variable(9)), variable(5)),
		fun(".", number(1), fun(".", variable(4), fun("[]"))),
		fun("f", times(api.MaxArity, variable(2))...),
		fun("f", times(api.MaxArity, fun("f", times(api.MaxArity, number(2))...))...),
		deep(api.MaxDeep-1, variable(12)), deep(api.MaxDeep-1, number(12)), deep(api.MaxDeep-1, fun("a")),
		sized(api.MaxNodes, variable(6)), sized(api.MaxNodes, number(6)), sized(api.MaxNodes, fun("a")),
		spine(api.MaxDeep, 1, variable(2)), spine(api.MaxDeep, 7, number(2)),
	}
}

// wrongOnes returns terms with one fault each.
func wrongOnes() []api.Term {
	l := []api.Term{
		{}, {Kind: -1}, {Kind: 4}, {Kind: math.MinInt}, {Kind: math.MaxInt}, {Name: "a"}, {Kind: 4, Name: "a"},
		variable(-1), variable(api.MaxVar), variable(math.MinInt), variable(math.MaxInt),
		{Kind: api.Var, Name: "a"}, {Kind: api.Var, Args: []api.Term{fun("a")}}, {Kind: api.Var, Args: []api.Term{variable(1)}},
		{Kind: api.Num, Name: "a"}, {Kind: api.Num, Args: []api.Term{fun("a")}}, {Kind: api.Num, N: 5, Args: []api.Term{variable(1)}},
		fun(""), fun("", fun("a")), fun(strings.Repeat("x", api.MaxName+1)), fun(strings.Repeat("x", 100000)),
		fun("\x1f"), fun("\x7f"), fun("\x00"), fun("\xff"), fun("\n"), fun("é"), fun("a\n"), fun("\na"), fun("a\x7fb"),
		{Kind: api.Fun, Name: "a", N: 1}, {Kind: api.Fun, Name: "a", N: -1}, {Kind: api.Fun, Name: "a", N: math.MinInt, Args: []api.Term{fun("a")}},
		fun("f", times(api.MaxArity+1, fun("a"))...),
		deep(api.MaxDeep, variable(0)), deep(api.MaxDeep, number(0)), deep(api.MaxDeep, fun("a")),
		sized(api.MaxNodes+1, variable(0)), sized(api.MaxNodes+1, number(0)), sized(api.MaxNodes+1, fun("a")),
		fun("f", sized(api.MaxNodes/2, fun("a")), sized(api.MaxNodes/2, fun("a"))),
		fun("f", deep(api.MaxDeep-1, fun("a")), fun("a")), spine(api.MaxDeep+1, 1, variable(0)),
	}
	for _, x := range l {
		l = append(l, fun("f", x), fun("f", x, fun("a")), fun("f", fun("a"), number(2), x), deep(5, x))
	}
	return append(l, fun("f", times(1000, variable(1))...), deep(1<<15, variable(1)), deep(1<<15, api.Term{}))
}

// apart returns a copy of t that shares no memory with it.
func apart(t api.Term) api.Term {
	var l []api.Term
	for _, x := range t.Args {
		l = append(l, apart(x))
	}
	return api.Term{Kind: t.Kind, Name: t.Name, N: t.N, Args: l}
}

// alike compares terms without the package that is tested.
func alike(a, b api.Term) bool {
	if a.Kind != b.Kind || a.Name != b.Name || a.N != b.N || len(a.Args) != len(b.Args) {
		return false
	}
	for i := range a.Args {
		if !alike(a.Args[i], b.Args[i]) {
			return false
		}
	}
	return true
}

func allAlike(a, b []api.Term) bool {
	return alike(fun("f", a...), fun("f", b...))
}

// brief is the beginning of a term's text, for a message.
func brief(t api.Term) string {
	s := beginning(t, 80)
	return strconv.Quote(s[:min(len(s), 80)])
}

// beginning is some more than room bytes of t at most: a term may be very large.
func beginning(t api.Term, room int) string {
	s := strconv.Itoa(t.Kind) + ":" + t.Name[:min(len(t.Name), room)] + ":" + strconv.Itoa(t.N)
	for _, x := range t.Args {
		if len(s) >= room {
			return s
		}
		s += "(" + beginning(x, room-len(s)) + ")"
	}
	return s
}
