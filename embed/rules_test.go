package embed_test

import (
	"math/rand"
	"testing"

	"finial/api"
	"finial/embed"
)

// P0, for the calls of this package: the rules R1 to R5.

// R1: every call returns, and none panics.
func TestCallsReturn(t *testing.T) {
	for _, x := range odd() {
		for _, y := range []api.Term{fun("a"), variable(0), fun("f", variable(1), variable(0)), x} {
			checkRefused(t, x, y)
		}
		checkWhistle(t, []api.Term{fun("a"), fun("b"), x, fun("c")}, fun("a"), 0)
		checkWhistle(t, []api.Term{fun("a"), fun("b"), x}, x, -1)
	}
	checkWhistle(t, odd(), fun("a"), -1)
}

// R1: a term whose parts are shared can be larger than its memory.
func TestSharedParts(t *testing.T) {
	big := variable(1)
	for range 60 {
		big = twice(big)
	}
	for _, x := range []api.Term{fun("a"), variable(1), twice(variable(0)), big} {
		checkRefused(t, big, x)
	}
	// A valid one: its parts count at each of their places.
	part, other, wrong := variable(4), fun("g", variable(5)), fun("g", number(5))
	for range 9 {
		part, other, wrong = twice(part), twice(other), twice(wrong)
	}
	checkIn(t, part, other, true)
	checkIn(t, other, part, false)
	checkIn(t, part, wrong, false)
	checkIn(t, fun("g", part), fun("g", other), true)
	checkIn(t, twice(part), other, false)
	checkRefused(t, twice(twice(other)), other)
}

// R1: a term that is its own Arg.
func TestEndlessTerms(t *testing.T) {
	args := make([]api.Term, 1)
	args[0] = fun("f", args...)
	endless := args[0]
	for _, x := range []api.Term{fun("a"), variable(0), fun("f", variable(0)), endless} {
		if embed.In(x, endless) || embed.In(endless, x) {
			t.Error("In: an endless term")
		}
		if n := embed.Whistle([]api.Term{x, endless}, endless); n != -1 {
			t.Errorf("Whistle in an endless term: %d", n)
		}
	}
	if n := embed.Whistle([]api.Term{variable(2), endless}, fun("f", variable(1))); n != 0 {
		t.Errorf("Whistle with an endless term: %d", n)
	}
}

// R3: a nil list and an empty one are the same.
func TestNilAndEmpty(t *testing.T) {
	for _, x := range []api.Term{variable(3), number(3), fun("a")} {
		y := x
		y.Args = []api.Term{}
		for _, c := range [][2]api.Term{{x, y}, {y, x}, {y, y}} {
			checkIn(t, c[0], c[1], true)
			checkIn(t, c[0], fun("f", number(0), c[1], variable(0), fun("a")), true)
			checkIn(t, fun("f", c[0]), fun("f", fun("g", c[1])), true)
			checkIn(t, twice(c[0]), fun("f", c[1], fun("b")), false)
		}
	}
}

// R3: arguments are not changed, nor what lies behind a list in its memory.
func TestArgumentsStay(t *testing.T) {
	r := rand.New(rand.NewSource(90))
	for i := range 300 {
		x, y := anyPair(r)
		l := append(make([]api.Term, 0, 6), x, y, grown(r, x), fun("f", x, y))
		if i%3 == 0 {
			l[r.Intn(4)] = api.Term{Kind: api.Fun, Args: []api.Term{fun("b"), fun("a")}}
		}
		whole := append(l, fun("behind"), fun("behind", number(4)))
		before := apart(fun("f", whole...))
		for _, z := range l {
			embed.Whistle(l, z)
			embed.Whistle(l[1:3], z)
			embed.In(l[0], z)
			embed.In(fun("f", l[:2]...), fun("f", l[1:3]...))
		}
		if !allAlike(whole, before.Args) {
			t.Errorf("changed: %s", briefAll(whole))
		}
	}
}

// R4: results depend on the arguments alone, not on what was asked before.
func TestSameResultsAgain(t *testing.T) {
	r := rand.New(rand.NewSource(91))
	x := sized(700, variable(0))
	y := fun("g", x, fun("a"))
	for range 30 {
		embed.In(y, y)
		embed.In(x, api.Term{})
		embed.Whistle([]api.Term{x, y, {}}, y)
		a, b := anyPair(r)
		is := embed.In(a, b)
		checkIn(t, x, y, true)
		checkIn(t, y, x, false)
		checkWhistle(t, []api.Term{fun("a"), x, y, sized(700, number(0))}, y, 2)
		checkWhistle(t, []api.Term{fun("b"), y, sized(700, number(0))}, x, -1)
		checkIn(t, a, b, is)
	}
}

// R5: indices are counted from 0; names are compared byte by byte.
func TestNumbersFromZero(t *testing.T) {
	var l []api.Term
	for b := 32; b <= 126; b++ {
		name := string(rune(b))
		l = append(l, fun(name))
		checkIn(t, fun(name), fun(name), true)
		checkIn(t, fun("a"+name), fun("g", fun("a"+name)), true)
		if b < 126 {
			next := string(rune(b + 1))
			checkIn(t, fun(name), fun(next), false)
			checkIn(t, fun("a"+name), fun("a"+next), false)
			checkIn(t, fun(name, fun("a")), fun(next, fun("b")), false)
			checkIn(t, fun(name, fun("a")), fun(next, fun(name, fun("a"))), true)
		}
	}
	for i, x := range l {
		checkWhistle(t, l, x, i)
		checkWhistle(t, l, fun("f", x), i)
	}
}
