package compare_test

import (
	"math"
	"math/rand"
	"strings"

	"finial/api"
	"finial/sample"
)

var (
	variable = sample.Variable
	number   = sample.Number
	fun      = sample.Fun
	times    = sample.Times
	deep     = sample.Deep
	sized    = sample.Sized
	spine    = sample.Spine

	rightOnes = sample.RightOnes
	wrongOnes = sample.WrongOnes
	odd       = sample.Odd

	apart    = sample.Apart
	alike    = sample.Alike
	allAlike = sample.AllAlike
	brief    = sample.Brief
)

// ladder returns valid terms, each of which precedes all that stand after it.
func ladder() []api.Term {
	a, b, z := fun("a"), fun("b"), variable(0)
	return []api.Term{
		// Vars by N.
		z, variable(1), variable(2), variable(9), variable(10), variable(api.MaxVar - 1),
		// Nums by N, none of which is a difference that fits into a number.
		number(math.MinInt), number(math.MinInt + 1), number(-api.MaxVar), number(-10), number(-9), number(-1), number(0), number(1), number(9), number(10),
		number(math.MaxInt32), number(math.MaxInt32 + 1), number(math.MaxInt - 1), number(math.MaxInt),
		// Atoms by Name: by bytes, a prefix first.
		fun(" "), fun("  "), fun(" a"), fun("!"), fun("'"), fun("+"), fun("0"), fun("10"), fun("9"), fun("A"), fun("B"), fun("Z"), fun("[]"), fun("_0"),
		a, fun("a "), fun("aB"), fun("aZzzzzz"), fun("aa"), fun("aaa"), fun("ab"), b, fun("ba"),
		fun(strings.Repeat("x", api.MaxName-1)), fun(strings.Repeat("x", api.MaxName)), fun(strings.Repeat("x", api.MaxName-1) + "y"), fun("z"), fun("~"), fun("~~"),
		// Funs by the number of their Args ahead of their Names and of their Args, whatever these are.
		fun(" ", z), fun(" ", fun("~", fun("~"))), fun("Z", z),
		fun("a", z), fun("a", variable(1)), fun("a", number(-1)), fun("a", number(1)), fun("a", a), fun("a", b), fun("a", fun("a", z)), fun("a", fun("a", a)), fun("a", fun("b", z)), fun("a", fun("a", z, z)),
		fun("aa", z), fun("b", z), fun("~", z),
		// Args by the first that differs, from the left.
		fun(" ", fun("~"), fun("~")),
		fun("f", z, z), fun("f", z, variable(1)), fun("f", z, fun("~", fun("~"))), fun("f", variable(1), z), fun("f", variable(1), variable(1)),
		fun("f", number(3), b), fun("f", number(4), a), fun("f", a, a), fun("f", a, b), fun("f", b, a), fun("f", b, b), fun("f", fun("a", z), z),
		fun("g", z, z),
		fun("f", a, b, a), fun("f", a, b, b), fun("f", b, a, a), fun("f", fun("g", z, variable(3)), a, a), fun("f", fun("g", variable(1), variable(2)), z, z),
		fun("e", times(api.MaxArity, fun("~"))...),
		fun("f", times(api.MaxArity, z)...), fun("f", append(times(api.MaxArity-1, z), a)...), fun("f", append(times(api.MaxArity-2, z), a, z)...), fun("f", times(api.MaxArity, a)...),
		sized(api.MaxNodes, number(1)), sized(api.MaxNodes, number(2)),
	}
}

// deepLadder is a ladder of terms that differ at the greatest depth, or in the last of very many terms.
func deepLadder() []api.Term {
	var l []api.Term
	for _, x := range []api.Term{variable(0), variable(api.MaxVar - 1), number(math.MinInt), number(math.MaxInt), fun("a"), fun("b")} {
		l = append(l, deep(api.MaxDeep-1, x))
	}
	part := sized(374, fun("a"))
	for _, x := range []api.Term{variable(3), number(3), fun("a"), fun("aa")} {
		l = append(l, fun("f", append(times(api.MaxArity-1, part), x)...))
	}
	return l
}

// anyTerms returns n valid terms of few kinds, so that many of them are equal or variants.
func anyTerms(n int, seed int64) []api.Term {
	r := rand.New(rand.NewSource(seed))
	var l []api.Term
	for range n {
		l = append(l, sample.AnyTerm(r.Intn, 3, 3))
	}
	return l
}

// threes returns all terms f(x, y, z) of three variables or fewer.
func threes() []api.Term {
	var l []api.Term
	for i := range 27 {
		l = append(l, fun("f", variable(i/9), variable(i/3%3), variable(i%3)))
	}
	return l
}

// shuffled returns the terms in another order.
func shuffled(l []api.Term, seed int64) []api.Term {
	m := append([]api.Term{}, l...)
	rand.New(rand.NewSource(seed)).Shuffle(len(m), func(i, j int) { m[i], m[j] = m[j], m[i] })
	return m
}
