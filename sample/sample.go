// Package sample makes terms for the tests of the layers; the program itself does not use it.
package sample

import (
	"math"
	"slices"
	"strconv"
	"strings"

	"finial/api"
)

// Variable returns the variable n.
func Variable(n int) api.Term { return api.Term{Kind: api.Var, N: n} }

// Number returns the number n.
func Number(n int) api.Term { return api.Term{Kind: api.Num, N: n} }

// Fun returns the Fun of that name and those Args.
func Fun(name string, l ...api.Term) api.Term { return api.Term{Kind: api.Fun, Name: name, Args: l} }

// Pair returns the list of the first element x and the remaining list y.
func Pair(x, y api.Term) api.Term { return Fun(".", x, y) }

// List returns the list of these elements.
func List(l ...api.Term) api.Term {
	t := Fun("[]")
	for _, x := range slices.Backward(l) {
		t = Pair(x, t)
	}
	return t
}

// Times returns n terms x.
func Times(n int, x api.Term) []api.Term {
	var l []api.Term
	for range n {
		l = append(l, x)
	}
	return l
}

// Variables returns n variables from first on.
func Variables(first, n int) []api.Term {
	var l []api.Term
	for i := range n {
		l = append(l, Variable(first+i))
	}
	return l
}

// Twice returns a Fun of x and x.
func Twice(x api.Term) api.Term { return Fun("f", x, x) }

// Deep returns x inside n Funs of one Arg.
func Deep(n int, x api.Term) api.Term {
	for range n {
		x = Fun("f", x)
	}
	return x
}

// Sized returns a term of n terms in all, whose depth is small; its leaves are x.
func Sized(n int, x api.Term) api.Term {
	if n == 1 {
		return x
	}
	left := n - 1
	var l []api.Term
	for i := api.MaxArity; i > 0 && left > 0; i-- {
		part := (left + i - 1) / i
		l = append(l, Sized(part, x))
		left -= part
	}
	return Fun("f", l...)
}

// Spine returns n Funs, each but the last one with the next one as its last Arg, after width others that are x.
func Spine(n, width int, x api.Term) api.Term {
	t := Fun("s")
	for range n - 1 {
		t = Fun("s", append(Times(width, x), t)...)
	}
	return t
}

// RightOnes returns valid terms of all kinds.
func RightOnes() []api.Term {
	return []api.Term{
		Variable(0), Variable(7), Variable(api.MaxVar - 1), Variable(api.MaxVar / 2),
		Number(0), Number(-1), Number(math.MinInt), Number(math.MaxInt), Number(api.MaxVar),
		Fun("a"), Fun("_3"), Fun("[]"), Fun("'"), Fun(" "), Fun("~"), Fun("A b(,"), Fun(strings.Repeat("x", api.MaxName)),
		Fun("f", Variable(3), Fun("g", Variable(1), Variable(3))),
		Fun("f", Variable(1), Variable(0), Variable(2), Variable(1)),
		Fun("f", Number(3), Variable(3), Fun("g", Number(4))),
		Fun("f", Variable(9), Fun("f", Variable(8), Fun("f", Variable(7)), Variable(9)), Variable(5)),
		Fun(".", Number(1), Fun(".", Variable(4), Fun("[]"))),
		Fun("f", Times(api.MaxArity, Variable(2))...),
		Fun("f", Times(api.MaxArity, Fun("f", Times(api.MaxArity, Number(2))...))...),
		Deep(api.MaxDeep-1, Variable(12)), Deep(api.MaxDeep-1, Number(12)), Deep(api.MaxDeep-1, Fun("a")),
		Sized(api.MaxNodes, Variable(6)), Sized(api.MaxNodes, Number(6)), Sized(api.MaxNodes, Fun("a")),
		Spine(api.MaxDeep, 1, Variable(2)), Spine(api.MaxDeep, 7, Number(2)),
	}
}

// SmallOnes returns all terms of the variables 0 and 1, a, 1, and of f and g around these, and some more.
func SmallOnes() []api.Term {
	leaves := []api.Term{Variable(0), Variable(1), Fun("a"), Number(1)}
	parts := slices.Clone(leaves)
	for _, x := range leaves {
		parts = append(parts, Fun("g", x))
	}
	l := slices.Clone(parts)
	for _, x := range parts {
		for _, y := range parts {
			l = append(l, Fun("f", x, y))
		}
	}
	return append(l, Fun("g", Fun("g", Variable(0))), Fun("g", Twice(Variable(0))), Fun("f"), Fun("f", Variable(0)), Fun("f", Variable(0), Variable(1), Variable(0)))
}

// WrongOnes returns terms with one fault each.
func WrongOnes() []api.Term {
	l := []api.Term{
		{}, {Kind: -1}, {Kind: 4}, {Kind: math.MinInt}, {Kind: math.MaxInt}, {Name: "a"}, {Kind: 4, Name: "a"},
		Variable(-1), Variable(api.MaxVar), Variable(math.MinInt), Variable(math.MaxInt),
		{Kind: api.Var, Name: "a"}, {Kind: api.Var, Args: []api.Term{Fun("a")}}, {Kind: api.Var, Args: []api.Term{Variable(1)}},
		{Kind: api.Num, Name: "a"}, {Kind: api.Num, Args: []api.Term{Fun("a")}}, {Kind: api.Num, N: 5, Args: []api.Term{Variable(1)}},
		Fun(""), Fun("", Fun("a")), Fun(strings.Repeat("x", api.MaxName+1)), Fun(strings.Repeat("x", 100000)),
		Fun("\x1f"), Fun("\x7f"), Fun("\x00"), Fun("\xff"), Fun("\n"), Fun("é"), Fun("a\n"), Fun("\na"), Fun("a\x7fb"),
		{Kind: api.Fun, Name: "a", N: 1}, {Kind: api.Fun, Name: "a", N: -1}, {Kind: api.Fun, Name: "a", N: math.MinInt, Args: []api.Term{Fun("a")}},
		Fun("f", Times(api.MaxArity+1, Fun("a"))...),
		Deep(api.MaxDeep, Variable(0)), Deep(api.MaxDeep, Number(0)), Deep(api.MaxDeep, Fun("a")),
		Sized(api.MaxNodes+1, Variable(0)), Sized(api.MaxNodes+1, Number(0)), Sized(api.MaxNodes+1, Fun("a")),
		Fun("f", Sized(api.MaxNodes/2, Fun("a")), Sized(api.MaxNodes/2, Fun("a"))),
		Fun("f", Deep(api.MaxDeep-1, Fun("a")), Fun("a")), Spine(api.MaxDeep+1, 1, Variable(0)),
	}
	for _, x := range l {
		l = append(l, Fun("f", x), Fun("f", x, Fun("a")), Fun("f", Fun("a"), Number(2), x), Deep(5, x))
	}
	return append(l, Fun("f", Times(1000, Variable(1))...), Deep(1<<15, Variable(1)), Deep(1<<15, api.Term{}))
}

// Odd returns terms that no program makes.
func Odd() []api.Term {
	l := slices.Concat(WrongOnes(), []api.Term{
		{Kind: api.Var, N: math.MinInt, Name: "\x00", Args: Times(100, api.Term{Kind: 9})},
		{Args: []api.Term{{Args: []api.Term{{Args: []api.Term{}}}}}},
		Deep(1<<16-1, Variable(math.MaxInt)), Deep(1<<16-1, api.Term{}), Sized(200000, Variable(-3)),
	})
	return append(l, Fun("f", l[:80]...))
}

// AnyTerm returns a valid term of few kinds, of the variables 0 to vars - 1, and of depth at most; pick(n) picks a number below n.
func AnyTerm(pick func(n int) int, vars, depth int) api.Term {
	switch k := pick(7); {
	case k < 3:
		return Variable(pick(vars))
	case k == 3:
		return Number(pick(3) - 1)
	case k == 4 || depth == 1:
		return Fun([]string{"a", "b", "ab"}[pick(3)])
	}
	var l []api.Term
	for range 1 + pick(3) {
		l = append(l, AnyTerm(pick, vars, depth-1))
	}
	return Fun([]string{"f", "g", "fg"}[pick(3)], l...)
}

// AnyPattern returns a valid term of the variables 0 to vars - 1, often one of more parts than AnyTerm.
func AnyPattern(pick func(n int) int, vars int) api.Term {
	t := AnyTerm(pick, vars, 1+pick(4))
	for range pick(3) {
		t = Fun("h", t, AnyTerm(pick, vars, 2), Variable(pick(vars)))
	}
	return t
}

// Nearly returns t with another term in the place of one inside it.
func Nearly(pick func(n int) int, t api.Term) api.Term {
	if len(t.Args) == 0 || pick(4) == 0 {
		return AnyTerm(pick, 4, 2)
	}
	t = Apart(t)
	i := pick(len(t.Args))
	t.Args[i] = Nearly(pick, t.Args[i])
	return t
}

// Numbered returns t with its variables numbered from its end, from first on, each place by a number of its own.
func Numbered(t api.Term, first int) api.Term {
	t = Apart(t)
	var each func(x *api.Term)
	each = func(x *api.Term) {
		if x.Kind == api.Var {
			x.N = first
			first++
		}
		for i := range x.Args {
			each(&x.Args[len(x.Args)-1-i])
		}
	}
	each(&t)
	return t
}

// Inside returns t and all terms inside it.
func Inside(t api.Term) []api.Term {
	l := []api.Term{t}
	for _, x := range t.Args {
		l = append(l, Inside(x)...)
	}
	return l
}

// Bind binds the variable v to t.
func Bind(v int, t api.Term) api.Bind { return api.Bind{V: v, T: t} }

// Binds binds the variable 0 to the first term, 1 to the next one, and so on.
func Binds(l ...api.Term) []api.Bind {
	var m []api.Bind
	for i, t := range l {
		m = append(m, Bind(i, t))
	}
	return m
}

// Becomes returns what t becomes, by the words of the document alone and without regard to room.
func Becomes(l []api.Bind, t api.Term) api.Term {
	if t.Kind == api.Var {
		for _, b := range l {
			if b.V == t.N {
				return Becomes(l, b.T)
			}
		}
		return t
	}
	var args []api.Term
	for _, a := range t.Args {
		args = append(args, Becomes(l, a))
	}
	t.Args = args
	return t
}

// Filled returns the pattern with each variable replaced by the term of its first bind, once, by the words of the
// document alone and without regard to room.
func Filled(pattern api.Term, l []api.Bind) api.Term {
	if pattern.Kind == api.Var {
		for _, b := range l {
			if b.V == pattern.N {
				return b.T
			}
		}
		return pattern
	}
	var args []api.Term
	for _, a := range pattern.Args {
		args = append(args, Filled(a, l))
	}
	pattern.Args = args
	return pattern
}

// Overwrite writes over all terms inside t, where they lie in memory: what shares memory with t changes.
func Overwrite(t api.Term) {
	for i, x := range t.Args {
		Overwrite(x)
		t.Args[i] = Fun("overwritten")
	}
}

// Apart returns a copy of t that shares no memory with it.
func Apart(t api.Term) api.Term {
	var l []api.Term
	for _, x := range t.Args {
		l = append(l, Apart(x))
	}
	return api.Term{Kind: t.Kind, Name: t.Name, N: t.N, Args: l}
}

// Alike compares terms without the package that is tested.
func Alike(a, b api.Term) bool {
	if a.Kind != b.Kind || a.Name != b.Name || a.N != b.N || len(a.Args) != len(b.Args) {
		return false
	}
	for i := range a.Args {
		if !Alike(a.Args[i], b.Args[i]) {
			return false
		}
	}
	return true
}

// AllAlike compares two lists of terms without the package that is tested.
func AllAlike(a, b []api.Term) bool {
	return Alike(Fun("f", a...), Fun("f", b...))
}

// AlikeBinds compares two lists of binds without the package that is tested.
func AlikeBinds(a, b []api.Bind) bool {
	if len(a) != len(b) {
		return false
	}
	for i := range a {
		if a[i].V != b[i].V || !Alike(a[i].T, b[i].T) {
			return false
		}
	}
	return true
}

// ApartBinds returns a copy of l that shares no memory with it.
func ApartBinds(l []api.Bind) []api.Bind {
	var m []api.Bind
	for _, b := range l {
		m = append(m, Bind(b.V, Apart(b.T)))
	}
	return m
}

// Brief is the beginning of a term's text, for a message.
func Brief(t api.Term) string {
	s := beginning(t, 80)
	return strconv.Quote(s[:min(len(s), 80)])
}

// BriefAll is the beginning of the terms' texts, for a message.
func BriefAll(l []api.Term) string {
	s := strconv.Itoa(len(l)) + " terms:"
	for _, x := range l[:min(len(l), 6)] {
		s += " " + Brief(x)
	}
	return s
}

// Text is the whole text of a term, which tells it from every other one.
func Text(t api.Term) string {
	var b strings.Builder
	var write func(x api.Term)
	write = func(x api.Term) {
		b.WriteString(strconv.Itoa(x.Kind) + strconv.Quote(x.Name) + strconv.Itoa(x.N) + "(")
		for _, a := range x.Args {
			write(a)
		}
		b.WriteString(")")
	}
	write(t)
	return b.String()
}

// Texts calls do with each text of n of the bytes.
func Texts(bytes string, n int, do func(s string)) {
	l := make([]byte, n)
	var each func(i int)
	each = func(i int) {
		if i == n {
			do(string(l))
			return
		}
		for k := range len(bytes) {
			l[i] = bytes[k]
			each(i + 1)
		}
	}
	each(0)
}

// beginning is some more than room bytes of t at most: a term may be very large.
func beginning(t api.Term, room int) string {
	s := strconv.Itoa(t.Kind) + ":" + t.Name[:min(len(t.Name), room)] + ":" + strconv.Itoa(t.N)
	for _, x := range t.Args {
		if len(s) >= room {
			return s
		}
		s += "(" + beginning(x, room-len(s)) + ")"
	}
	return s
}
