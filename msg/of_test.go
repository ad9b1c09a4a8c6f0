package msg_test

import (
	"math"
	"math/rand"
	"testing"

	"finial/api"
	"finial/msg"
	"finial/term"
)

// P6.1: Of; P6.2: Apart, which each check asks too.

func TestExample(t *testing.T) {
	a, b, c := fun("a"), fun("b"), fun("c")
	checkOf(t, fun("f", a, fun("g", a), a), fun("f", b, fun("g", b), c), fun("f", variable(0), fun("g", variable(0)), variable(1)))
	if n, e := msg.Apart(fun("f", a, fun("g", a), a), fun("f", b, fun("g", b), c)); e != api.OK || n != 2 {
		t.Errorf("Apart: %d, %d", n, e)
	}
}

func TestOf(t *testing.T) {
	a, b, c, d, x, y, z, far := fun("a"), fun("b"), fun("c"), fun("d"), variable(0), variable(1), variable(2), variable(api.MaxVar-1)
	for _, l := range []struct{ a, b, want api.Term }{
		{a, a, a}, {number(-3), number(-3), number(-3)}, {number(math.MinInt), number(math.MinInt), number(math.MinInt)}, {fun("f", a, number(0)), fun("f", a, number(0)), fun("f", a, number(0))},
		{a, b, x}, {number(0), number(1), x}, {number(math.MinInt), number(math.MaxInt), x}, {number(0), fun("0"), x}, {a, fun("A"), x}, {a, fun("a "), x}, {a, fun("aa"), x},
		// Funs of the same Name with another number of Args, or the other way round, have nothing in common.
		{a, fun("a", a), x}, {fun("f", a), fun("f", a, a), x}, {fun("f", a), fun("g", a), x}, {fun("f", a, b), fun("g", a, b), x}, {fun("f"), fun("f", x), x}, {fun("f", a), number(0), x}, {fun("h", fun("f", a)), fun("h", fun("f", a, a)), fun("h", x)},
		{fun("f", a), fun("f", b), fun("f", x)}, {fun("f", a, b), fun("f", a, c), fun("f", a, x)}, {fun("f", a, b), fun("f", c, b), fun("f", x, b)}, {fun("f", fun("g", a), number(1)), fun("f", fun("g", b), number(1)), fun("f", fun("g", x), number(1))},
		// A variable is found again where both terms are the same ones, and only there.
		{twice(a), twice(b), twice(x)}, {fun("f", a, a), fun("f", b, c), fun("f", x, y)}, {fun("f", a, b), fun("f", c, c), fun("f", x, y)}, {fun("f", a, b), fun("f", b, a), fun("f", x, y)}, {fun("f", a, b, a), fun("f", b, a, b), fun("f", x, y, x)}, {fun("f", a, b, b, a), fun("f", b, a, a, b), fun("f", x, y, y, x)},
		{fun("f", a, b, c), fun("f", b, c, a), fun("f", x, y, z)}, {fun("f", a, b, a, b), fun("f", c, d, c, d), fun("f", x, y, x, y)}, {fun("f", number(1), number(2), number(1)), fun("f", number(2), number(1), number(2)), fun("f", x, y, x)},
		{fun("f", fun("g", a), fun("g", a)), twice(number(0)), twice(x)}, {fun("f", fun("g", a), fun("g", b)), twice(number(0)), fun("f", x, y)}, {twice(b), fun("f", fun("g", a), fun("g", a, a)), fun("f", x, y)}, {fun("f", fun("g", a), fun("g", a)), fun("f", fun("h", a), fun("h", b)), fun("f", x, y)}, {fun("f", fun("g", fun("g", a)), fun("g", fun("g", b))), twice(c), fun("f", x, y)},
		// What is inside terms that become a variable is not looked at.
		{fun("f", fun("g", a), a), fun("f", fun("h", b), b), fun("f", x, y)}, {fun("f", fun("g", a), a, fun("g", a)), fun("f", fun("h", b), b, fun("h", b)), fun("f", x, y, x)},
		// Numbered in the order of their first occurrence, however deep that is.
		{fun("f", fun("g", a, b), b, a), fun("f", fun("g", c, d), d, c), fun("f", fun("g", x, y), y, x)}, {fun("f", fun("g", fun("h", a)), b), fun("f", fun("g", fun("h", b)), a), fun("f", fun("g", fun("h", x)), y)}, {fun("f", fun("g", fun("g", a)), fun("g", a), a), fun("f", fun("g", fun("g", b)), fun("g", b), b), fun("f", fun("g", fun("g", x)), fun("g", x), x)},
		// Variables, too, become variables: also one and itself, with any number.
		{x, x, x}, {y, y, x}, {far, far, x}, {x, y, x}, {y, z, x}, {x, a, x}, {far, a, x}, {y, fun("f", a), x}, {z, number(2), x}, {fun("f", a, z), fun("f", a, z), fun("f", a, x)}, {fun("f", y, x), fun("f", y, x), fun("f", x, y)}, {fun("f", z, far, z), fun("f", z, far, z), fun("f", x, y, x)},
		// The variables of one term have nothing to do with those of the other one.
		{fun("f", x, y), fun("f", y, x), fun("f", x, y)}, {fun("f", x, y), fun("f", x, x), fun("f", x, y)}, {fun("f", x, x), fun("f", x, y), fun("f", x, y)}, {twice(x), twice(y), twice(x)}, {fun("f", x, y), twice(a), fun("f", x, y)}, {twice(x), twice(a), twice(x)}, {fun("f", x, y, x), fun("f", a, a, a), fun("f", x, y, x)}, {fun("f", y, y, y), fun("f", a, b, a), fun("f", x, y, x)},
		{fun("f", x, y, z), fun("f", y, z, x), fun("f", x, y, z)}, {fun("f", y, fun("g", y)), fun("f", z, fun("g", z)), fun("f", x, fun("g", x))}, {fun("f", y, fun("g", y)), fun("f", z, fun("g", x)), fun("f", x, fun("g", y))}, {fun("f", a, x), fun("f", x, a), fun("f", x, y)}, {fun("f", a, x, a), fun("f", x, a, x), fun("f", x, y, x)},
		{x, fun("f", x), x}, {fun("f", x, fun("f", x)), fun("f", fun("f", x), x), fun("f", x, y)}, {fun("f", fun("f", y), y), fun("f", y, y), fun("f", x, y)}, {fun("f", fun("g", x), fun("g", y)), twice(a), fun("f", x, y)},
		// Names and numbers that look like variables are none.
		{fun("_0"), x, x}, {fun("_1"), fun("_1"), fun("_1")}, {number(0), x, x}, {number(1), y, x}, {fun("f", number(0), y), fun("f", number(0), z), fun("f", number(0), x)}, {fun("f", fun("_0"), y), fun("f", fun("_0"), a), fun("f", fun("_0"), x)}, {fun("f", fun("_0"), x, number(0)), fun("f", x, number(0), fun("_0")), fun("f", x, y, z)}, {twice(fun("_0")), fun("f", x, fun("_0")), fun("f", x, fun("_0"))},
		{fun(".", number(1), fun(".", number(2), fun("[]"))), fun(".", number(1), fun(".", number(3), fun(".", number(4), fun("[]")))), fun(".", number(1), fun(".", x, y))},
		{fun("f", times(8, a)...), fun("f", times(8, b)...), fun("f", times(8, x)...)}, {fun("f", times(8, a)...), fun("f", variables(3, 8)...), fun("f", variables(0, 8)...)}, {fun("f", times(8, a)...), fun("f", append(times(7, a), b)...), fun("f", append(times(7, a), x)...)},
	} {
		checkOf(t, l.a, l.b, l.want)
		checkOf(t, l.a, l.b, leastByWords(l.a, l.b))
	}
}

// R2: also where the other term tells already that nothing is in common.
func TestOfWrongTerms(t *testing.T) {
	for _, x := range wrongOnes() {
		for _, y := range []api.Term{fun("a"), variable(0), number(0), fun("f", variable(1)), twice(variable(0)), x, {}} {
			checkRefused(t, x, y)
		}
	}
}

func TestBounds(t *testing.T) {
	for _, v := range []int{math.MinInt, -api.MaxVar, -1, 0, 1, 999998, 999999, 1000000, 1000001, math.MaxInt} {
		for _, y := range []api.Term{fun("a"), variable(v), variable(3)} {
			if v < 0 || v > 999999 {
				checkRefused(t, variable(v), y)
				checkRefused(t, fun("f", variable(v)), fun("f", y))
				continue
			}
			checkOf(t, variable(v), y, variable(0))
			checkOf(t, fun("f", variable(v)), fun("f", y), fun("f", variable(0)))
		}
	}
}

func TestOfRightTerms(t *testing.T) {
	for _, x := range rightOnes() {
		for _, y := range rightOnes() {
			checkOf(t, x, y, leastByWords(x, y))
			if p, q := fun("f", x, variable(0)), fun("f", y, x); term.Right(p) && term.Right(q) {
				checkOf(t, p, q, leastByWords(p, q))
			} else {
				checkRefused(t, p, q)
			}
		}
	}
}

// Terms that are as large as permitted, and larger ones.
func TestOfLargeTerms(t *testing.T) {
	a, b, x, y := fun("a"), fun("b"), variable(0), variable(1)
	for _, leaf := range []api.Term{b, number(4), variable(3)} {
		for n := 2998; n <= 3002; n++ {
			if n > 3000 {
				checkRefused(t, sized(n, leaf), sized(n, a))
				checkRefused(t, sized(n, leaf), a)
				continue
			}
			checkOf(t, sized(n, leaf), sized(n, a), sized(n, x))
			checkOf(t, sized(n, leaf), a, x)
		}
		for n := 97; n <= 102; n++ {
			if n > 99 {
				checkRefused(t, deep(n, leaf), deep(n, a))
				checkRefused(t, deep(n, leaf), a)
				continue
			}
			checkOf(t, deep(n, leaf), deep(n, a), deep(n, x))
			checkOf(t, deep(99, leaf), deep(n, number(9)), deep(n, x))
		}
		checkOf(t, twice(sized(1499, leaf)), twice(a), twice(x))
		checkOf(t, fun("f", sized(1499, leaf), sized(1499, a)), twice(b), fun("f", x, y))
		checkOf(t, twice(deep(98, leaf)), twice(a), twice(x))
		checkOf(t, fun("f", deep(98, leaf), deep(98, a)), twice(b), fun("f", x, y))
	}
}

// As many variables as terms can have, in any order.
func TestOfManyVariables(t *testing.T) {
	one, other, many := numbered(sized(3000, variable(0)), 7), numbered(sized(3000, variable(0)), 5000), renumbered(numbered(sized(3000, variable(0)), 0))
	if n := len(term.Vars([]api.Term{many})); n < 2400 {
		t.Fatalf("only %d variables", n)
	}
	checkOf(t, one, one, many)
	checkOf(t, one, other, many)
	checkOf(t, one, sized(3000, fun("a")), many)
	checkOf(t, sized(3000, number(1)), other, many)
	checkOf(t, one, many, many)
}

func TestOfFollowsTheWords(t *testing.T) {
	r := rand.New(rand.NewSource(61))
	again, alone := 0, 0
	for range 20000 {
		l := append(anyAlike(r, 2), anyPattern(r.Intn, 4))
		for _, c := range [][2]api.Term{{l[0], l[1]}, {l[1], nearly(r.Intn, l[1])}, {l[2], l[0]}} {
			want := leastByWords(c[0], c[1])
			checkOf(t, c[0], c[1], want)
			if repeats(want) {
				again++
			} else if want.Kind == api.Fun {
				alone++
			}
		}
	}
	if again < 5000 || alone < 5000 {
		t.Errorf("too few of one kind: %d, %d", again, alone)
	}
}

// By the definition alone: both are instances of the least generalisation, and that is an instance of all such terms.
func TestOfByDefinition(t *testing.T) {
	l := smallTerms()
	above := generalisations(l)
	for i, x := range l {
		for j, y := range l {
			got, e := msg.Of(x, y)
			if e != api.OK {
				t.Fatalf("Of %s and %s: %d", brief(x), brief(y), e)
			}
			checkLeast(t, []api.Term{x, y}, got, common(above[i], above[j]))
			if n, e := msg.Apart(x, y); e != api.OK || n != len(term.Vars([]api.Term{got})) {
				t.Fatalf("Apart of %s and %s: %d, %d", brief(x), brief(y), n, e)
			}
		}
	}
}
