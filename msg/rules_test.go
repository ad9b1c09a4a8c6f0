package msg_test

import (
	"math/rand"
	"testing"

	"finial/api"
	"finial/msg"
	"finial/sample"
)

// P0, for the calls of this package: the rules R1 to R5.

// R1: every call returns, and none panics; R2: with an error the other results are zero.
func TestCallsReturn(t *testing.T) {
	for _, x := range odd() {
		for _, y := range []api.Term{fun("a"), variable(0), fun("f", variable(1), variable(0)), x} {
			checkRefused(t, x, y)
		}
		checkAllFails(t, []api.Term{x}, api.ErrArg)
		checkAllFails(t, []api.Term{fun("a"), fun("b"), x, fun("c")}, api.ErrArg)
	}
	checkAllFails(t, odd(), api.ErrArg)
}

// R1: a term whose parts are shared can be larger than its memory.
func TestSharedParts(t *testing.T) {
	big := variable(1)
	for range 60 {
		big = twice(big)
	}
	for _, x := range []api.Term{fun("a"), variable(1), twice(variable(0)), big} {
		checkRefused(t, big, x)
	}
	// A valid one: its parts count at each of their places.
	part, other, want := variable(4), number(1), variable(0)
	for range 10 {
		part, other, want = twice(part), twice(other), twice(want)
	}
	checkOf(t, part, other, want)
	checkOf(t, part, part, want)
	checkOf(t, fun("g", part), fun("g", other), fun("g", want))
	checkRefused(t, twice(part), other)
}

// R1: a term that is its own Arg.
func TestEndlessTerms(t *testing.T) {
	args := make([]api.Term, 1)
	args[0] = fun("f", args...)
	endless := args[0]
	for _, x := range []api.Term{fun("a"), variable(0), fun("f", variable(0)), endless} {
		for _, l := range [][]api.Term{{x, endless}, {endless, x}} {
			if _, e := msg.Of(l[0], l[1]); e != api.ErrArg {
				t.Errorf("Of: %d", e)
			}
			if n, e := msg.Apart(l[0], l[1]); e != api.ErrArg || n != 0 {
				t.Errorf("Apart: %d, %d", n, e)
			}
			if _, e := msg.All(l); e != api.ErrArg {
				t.Errorf("All: %d", e)
			}
		}
	}
}

// R3: a nil list and an empty one are the same.
func TestNilAndEmpty(t *testing.T) {
	for _, x := range []api.Term{variable(3), number(3), fun("a")} {
		y := x
		y.Args = []api.Term{}
		want := renumbered(x)
		checkOf(t, x, y, want)
		checkOf(t, y, y, want)
		checkOf(t, twice(x), twice(y), twice(want))
		checkOf(t, fun("f", x, y), fun("f", y, x), twice(want))
		// The same terms are found again.
		checkOf(t, fun("f", x, y), twice(fun("b")), twice(variable(0)))
		checkOf(t, fun("f", fun("g", y), fun("g", x)), twice(fun("b")), twice(variable(0)))
		checkAll(t, []api.Term{y}, want)
		checkAll(t, []api.Term{x, y, x, y}, want)
	}
}

// R3: arguments are not changed, nor what lies behind a list in its memory.
func TestArgumentsStay(t *testing.T) {
	r := rand.New(rand.NewSource(70))
	for i := range 300 {
		l := append(make([]api.Term, 0, 6), anyAlike(r, 4)...)
		if i%3 == 0 {
			l[r.Intn(4)] = api.Term{Kind: api.Fun, Args: []api.Term{fun("b"), fun("a")}}
		}
		whole := append(l, fun("behind"), fun("behind", number(4)))
		before := apart(fun("f", whole...))
		msg.All(l)
		msg.All(l[1:3])
		for _, x := range l {
			msg.Of(x, l[0])
			msg.Of(fun("f", l[:2]...), fun("f", l[1:3]...))
			msg.Apart(l[1], x)
			msg.Apart(fun("f", l[:2]...), fun("f", l[1:3]...))
		}
		if !allAlike(whole, before.Args) {
			t.Errorf("changed: %s", briefAll(whole))
		}
	}
}

// R3: what one call has returned is not changed by later ones.
func TestResultsStay(t *testing.T) {
	r := rand.New(rand.NewSource(71))
	l := anyAlike(r, 3)
	l = append(l, fun("f", number(1), variable(5)), fun("f", number(1), fun("a")))
	g, _ := msg.Of(l[3], l[4])
	h, _ := msg.All(l[:3])
	one, _ := msg.All(l[:1])
	before := apart(fun("f", g, h, one))
	for range 200 {
		m := append(anyAlike(r, 3), g, h, one)
		msg.All(m)
		msg.All(m[4:])
		msg.Of(g, m[0])
		msg.Of(m[1], h)
		msg.Apart(g, one)
	}
	if !allAlike([]api.Term{g, h, one}, before.Args) || !alike(g, fun("f", number(1), variable(0))) {
		t.Errorf("changed: %s, %s, %s", brief(g), brief(h), brief(one))
	}
}

// What is returned shares no memory with the arguments, nor do its parts with each other.
func TestResultsShareNothing(t *testing.T) {
	part := fun("g", fun("h", number(1)), fun("h", variable(7)), variable(7))
	x, y := fun("p", part, part, fun("k", part), number(1)), fun("p", part, part, fun("k", part), number(2))
	before := []api.Term{apart(x), apart(y)}
	calls := []func() (api.Term, api.Errno){
		func() (api.Term, api.Errno) { return msg.Of(x, y) },
		func() (api.Term, api.Errno) { return msg.Of(x, x) },
		func() (api.Term, api.Errno) { return msg.All([]api.Term{x}) },
		func() (api.Term, api.Errno) { return msg.All([]api.Term{y, x}) },
		func() (api.Term, api.Errno) { return msg.All([]api.Term{x, x, y}) },
	}
	for n, call := range calls {
		want, e := call()
		want = apart(want)
		if e != api.OK || len(want.Args) != 4 {
			t.Fatalf("%d: %s, %d", n, brief(want), e)
		}
		for i := range want.Args {
			got, _ := call()
			sample.Overwrite(got.Args[i])
			got.Args[i] = want.Args[i]
			if !alike(got, want) || !allAlike([]api.Term{x, y}, before) {
				t.Errorf("%d: shared: the Arg %d", n, i)
			}
		}
		got, _ := call()
		sample.Overwrite(got)
		if !allAlike([]api.Term{x, y}, before) {
			t.Errorf("%d: shared: the whole", n)
		}
	}
}

// R4: results depend on the arguments alone, not on what was asked before.
func TestSameResultsAgain(t *testing.T) {
	r := rand.New(rand.NewSource(72))
	x, y := numbered(sized(900, variable(0)), 100), filled(numbered(sized(900, variable(0)), 100), binds(anyAlike(r, 3)...))
	g, e := msg.Of(x, y)
	n, f := msg.Apart(x, y)
	if e != api.OK || f != api.OK || n < 500 {
		t.Fatalf("Of: %d; Apart: %d, %d", e, n, f)
	}
	for range 30 {
		msg.Of(x, api.Term{})
		msg.Apart(y, api.Term{})
		msg.All(append(anyAlike(r, 4), x, api.Term{}))
		msg.All(append(anyAlike(r, 4), y))
		checkOf(t, x, y, g)
		if m, e := msg.Apart(x, y); e != api.OK || m != n {
			t.Fatal("another result of Apart")
		}
	}
}

// R5: variables are counted from 0, and told apart by number; names are compared byte by byte.
func TestNumbersFromZero(t *testing.T) {
	var l []api.Term
	for _, v := range []int{999999, 10, 0, 1, 100, 11, 9, 999998} {
		l = append(l, variable(v))
	}
	checkOf(t, fun("f", l...), fun("f", times(8, fun("a"))...), fun("f", variables(0, 8)...))
	checkOf(t, fun("f", l...), fun("f", l...), fun("f", variables(0, 8)...))
	for b := 32; b < 126; b++ {
		low, high := string(rune(b)), string(rune(b+1))
		checkOf(t, fun(low, fun("a")), fun(high, fun("a")), variable(0))
		checkOf(t, fun("a"+low), fun("a"+high), variable(0))
		checkOf(t, fun(low), fun(low), fun(low))
	}
}
