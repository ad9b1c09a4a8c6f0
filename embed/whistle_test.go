package embed_test

import (
	"math/rand"
	"slices"
	"testing"

	"finial/api"
	"finial/embed"
)

// P7.1: Whistle.

func TestWhistleOfNone(t *testing.T) {
	for _, x := range []api.Term{fun("a"), variable(0), fun("f", number(1)), {}} {
		checkWhistle(t, nil, x, -1)
		checkWhistle(t, []api.Term{}, x, -1)
		checkWhistle(t, rightOnes()[:0], x, -1)
	}
}

func TestWhistle(t *testing.T) {
	a, b, x := fun("a"), fun("b"), variable(0)
	f := fun("f", a)
	g := fun("g", f)
	for _, c := range []struct {
		l    []api.Term
		t    api.Term
		want int
	}{
		{[]api.Term{a}, a, 0}, {[]api.Term{a}, b, -1}, {[]api.Term{a}, f, 0}, {[]api.Term{f}, a, -1},
		// The last one, whatever comes before or behind it, and however much smaller it is.
		{[]api.Term{a, a, a}, a, 2}, {[]api.Term{a, a, b}, a, 1}, {[]api.Term{a, b, b}, a, 0}, {[]api.Term{b, a, b}, a, 1}, {[]api.Term{b, b, b}, a, -1}, {[]api.Term{g, f, a}, g, 2}, {[]api.Term{a, f, g}, g, 2}, {[]api.Term{a, f, g}, f, 1}, {[]api.Term{g, f, a}, f, 2}, {[]api.Term{a, f, g}, a, 0}, {[]api.Term{a, f, g, b, number(1)}, fun("g", fun("h", f)), 2},
		// The terms of the list are embedded in t, not the other way round.
		{[]api.Term{g, g}, f, -1}, {[]api.Term{g, f, g}, f, 1}, {[]api.Term{fun("f", g), fun("f", b), f}, fun("f", fun("g", a)), 2}, {[]api.Term{fun("f", b), fun("f", a, a), fun("h", a)}, f, -1},
		// Whatever the N of Vars and Nums.
		{[]api.Term{x, variable(5), number(5)}, variable(9), 1}, {[]api.Term{number(1), number(2), x}, number(3), 1}, {[]api.Term{fun("f", x), fun("f", number(1)), fun("f", a)}, fun("f", fun("g", variable(7))), 0},
	} {
		checkWhistle(t, c.l, c.t, c.want)
		for i, y := range c.l {
			checkIn(t, y, c.t, i == c.want || i < c.want && embeddedByWords(y, c.t))
		}
	}
}

// Terms of the list that are not valid are not embedded, and do not hide those that are; nothing is embedded in such a term.
func TestWhistleOfWrongTerms(t *testing.T) {
	a, f := fun("a"), fun("f", fun("a"))
	for _, x := range wrongOnes() {
		checkWhistle(t, []api.Term{x}, a, -1)
		checkWhistle(t, []api.Term{x, x, x}, f, -1)
		checkWhistle(t, []api.Term{x, a, x}, f, 1)
		checkWhistle(t, []api.Term{a, x, x}, f, 0)
		checkWhistle(t, []api.Term{x, x, f}, f, 2)
		checkWhistle(t, []api.Term{a, variable(0), number(1), x}, x, -1)
		checkWhistle(t, []api.Term{a, variable(0), number(1)}, fun("f", x, a, variable(0), number(1)), -1)
	}
	checkWhistle(t, wrongOnes(), f, -1)
	checkWhistle(t, slices.Concat(wrongOnes(), []api.Term{a}, wrongOnes()), f, len(wrongOnes()))
}

func TestWhistleOfMany(t *testing.T) {
	var l []api.Term
	for i := range 20000 {
		l = append(l, fun("f", number(i), fun("g", times(i%5, fun("a"))...)))
	}
	for n, want := range []int{19995, 19996, 19997, 19998, 19999, -1} {
		checkWhistle(t, l, fun("f", number(-1), fun("g", times(n, fun("a"))...)), want)
		checkWhistle(t, l[:want+1], fun("f", number(-1), fun("g", times(n, fun("a"))...)), want)
	}
	// Only the very first one.
	checkWhistle(t, append([]api.Term{variable(3)}, times(20000, fun("b"))...), fun("f", variable(4)), 0)
	checkWhistle(t, times(20, sized(3000, variable(0))), sized(3000, variable(0)), 19)
	checkWhistle(t, append(times(2, sized(1400, variable(0))), times(10, sized(3000, fun("b")))...), twice(sized(1400, variable(1))), 1)
}

func TestWhistleFollowsTheWords(t *testing.T) {
	r := rand.New(rand.NewSource(83))
	count := map[int]int{}
	for range 10000 {
		var l []api.Term
		x, y := anyPair(r)
		for range r.Intn(6) {
			other, _ := anyPair(r)
			l = append(l, []api.Term{x, y, nearly(r.Intn, x), grown(r, x), other, {}}[r.Intn(6)])
		}
		want := -1
		for i, z := range l {
			if z.Kind != 0 && embeddedByWords(z, y) {
				want = i
			}
		}
		checkWhistle(t, l, y, want)
		count[want]++
	}
	for n := -1; n < 4; n++ {
		if count[n] < 500 {
			t.Errorf("too few of one kind: %v", count)
		}
	}
}

// Whistle tells what In tells, of the last one.
func TestWhistleAndIn(t *testing.T) {
	l := append(smallOnes(), wrongOnes()...)
	for _, x := range l {
		want := -1
		for i, y := range l {
			if embed.In(y, x) {
				want = i
			}
		}
		checkWhistle(t, l, x, want)
	}
}
