package msg_test

import (
	"math/rand"
	"slices"
	"testing"

	"finial/api"
	"finial/msg"
	"finial/term"
)

// P6.1: All.

func TestAllOfNone(t *testing.T) {
	checkAllFails(t, nil, api.ErrNone)
	checkAllFails(t, []api.Term{}, api.ErrNone)
	checkAllFails(t, rightOnes()[:0], api.ErrNone)
}

func TestAllOfOne(t *testing.T) {
	x, y, far := variable(0), variable(1), variable(api.MaxVar-1)
	checkAll(t, []api.Term{fun("a")}, fun("a"))
	checkAll(t, []api.Term{number(-7)}, number(-7))
	checkAll(t, []api.Term{far}, x)
	checkAll(t, []api.Term{fun("f", far, y, fun("g", far, x))}, fun("f", x, y, fun("g", x, variable(2))))
	for _, r := range append(rightOnes(), smallTerms()...) {
		checkAll(t, []api.Term{r}, renumbered(r))
	}
}

func TestAll(t *testing.T) {
	a, b, c, d, x, y, z := fun("a"), fun("b"), fun("c"), fun("d"), variable(0), variable(1), variable(2)
	for _, l := range [][]api.Term{
		{a, a, a, a}, {x, b, a, a}, {x, a, a, b}, {x, a, x, a}, {x, y, y, y}, {x, number(1), number(1), number(2)}, {number(5), number(5), number(5), number(5)}, {x, a, fun("a", a), fun("a", a)},
		{twice(x), twice(a), twice(b), twice(c)}, {fun("f", x, y), twice(a), twice(b), fun("f", c, d)}, {fun("f", x, y), fun("f", a, b), twice(a), twice(b)}, {fun("f", x, y), fun("f", a, b), fun("f", b, a), twice(c)},
		{fun("f", x, b, y), fun("f", a, b, a), fun("f", a, b, b), fun("f", b, b, a)}, {fun("f", x, y, z), fun("f", a, a, b), fun("f", a, b, a), fun("f", b, a, a)}, {fun("f", x, y, x, y), fun("f", a, a, a, a), fun("f", b, a, b, a), fun("f", b, b, b, b)},
		// What two of the terms have in common, and the third one has not.
		{x, fun("f", a), fun("f", b), a}, {fun("f", x, a), fun("f", fun("g", a), a), fun("f", fun("g", b), a), fun("f", number(1), a)}, {fun("f", x, y), fun("f", fun("g", a), a), fun("f", fun("g", b), b), fun("f", fun("h", c), c)}, {fun("f", fun("g", x), x), fun("f", fun("g", a), a), fun("f", fun("g", b), b), fun("f", fun("g", c), c)}, {fun("f", fun("g", x), y), fun("f", fun("g", a), a), fun("f", fun("g", b), b), fun("f", fun("g", c), d)},
		// The variables of one term have nothing to do with those of the others.
		{twice(x), twice(x), twice(y), twice(z)}, {fun("f", x, y), twice(x), twice(x), fun("f", x, y)}, {fun("f", x, y), fun("f", y, x), fun("f", x, y), fun("f", z, x)}, {fun("f", x, y, x), fun("f", x, y, x), fun("f", z, z, z), fun("f", a, x, a)}, {twice(x), twice(x), twice(a), twice(fun("g", x))},
	} {
		checkAll(t, l[1:], l[0])
		checkAll(t, l[1:], leastByWords(l[1:]...))
		checkAll(t, append(slices.Clone(l[1:]), l[1], l[3], l[2], l[2]), l[0])
	}
}

// R2: a term that is not valid is told of wherever it is, and also if nothing is in common anyway.
func TestAllOfWrongTerms(t *testing.T) {
	right := []api.Term{fun("a"), fun("f", variable(0)), number(3), fun("a")}
	for _, x := range wrongOnes() {
		checkAllFails(t, []api.Term{x}, api.ErrArg)
		checkAllFails(t, []api.Term{x, x, x}, api.ErrArg)
		for at := range len(right) + 1 {
			checkAllFails(t, slices.Insert(slices.Clone(right), at, x), api.ErrArg)
			checkAllFails(t, slices.Insert(times(4, fun("a")), at, x), api.ErrArg)
		}
	}
	checkAllFails(t, wrongOnes(), api.ErrArg)
	checkAllFails(t, append(times(10000, fun("a")), api.Term{}), api.ErrArg)
}

func TestAllOfRightTerms(t *testing.T) {
	checkAll(t, rightOnes(), variable(0))
	for _, x := range rightOnes() {
		for _, y := range rightOnes() {
			checkAll(t, []api.Term{x, y, x}, leastByWords(x, y, x))
			checkAll(t, []api.Term{x, x, y, y, variable(9)}, variable(0))
		}
	}
}

func TestAllOfMany(t *testing.T) {
	var l []api.Term
	for i := range 20000 {
		l = append(l, fun("f", number(i/2), variable(i), fun("g", number(i/2), fun("a")), number(i)))
	}
	checkAll(t, l, fun("f", variable(0), variable(1), fun("g", variable(0), fun("a")), variable(2)))
	checkAll(t, times(20, numbered(sized(3000, variable(0)), 9)), renumbered(numbered(sized(3000, variable(0)), 9)))
}

func TestAllFollowsTheWords(t *testing.T) {
	r := rand.New(rand.NewSource(62))
	again := 0
	for range 20000 {
		l := anyAlike(r, 1+r.Intn(6))
		want := leastByWords(l...)
		checkAll(t, l, want)
		if len(l) > 2 && repeats(want) {
			again++
		}
	}
	if again < 2000 {
		t.Errorf("only %d with a variable at several places", again)
	}
}

// By the definition alone: for any three terms of three parts at most, and for any four.
func TestAllByDefinition(t *testing.T) {
	known := smallTerms()
	above := generalisations(known)
	check := func(places ...int) {
		t.Helper()
		var l []api.Term
		var others []map[int]api.Term
		for _, i := range places {
			l, others = append(l, known[i]), append(others, above[i])
		}
		got, e := msg.All(l)
		if e != api.OK {
			t.Errorf("All of %s: %d", briefAll(l), e)
		}
		checkLeast(t, l, got, common(others...))
	}
	var short []int
	for i, x := range known {
		if term.Size(x) <= 3 {
			short = append(short, i)
		}
	}
	for _, i := range short {
		for _, j := range short {
			for _, k := range short {
				check(i, j, k)
			}
		}
	}
	r := rand.New(rand.NewSource(63))
	for range 10000 {
		check(r.Intn(len(known)), r.Intn(len(known)), r.Intn(len(known)), r.Intn(len(known)))
		check(short[r.Intn(len(short))], short[r.Intn(len(short))], short[r.Intn(len(short))], r.Intn(len(known)))
	}
}
