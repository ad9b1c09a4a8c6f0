package compare_test

import (
	"slices"
	"testing"

	"finial/api"
	"finial/compare"
	"finial/sample"
)

// P0, for the calls of this package: the rules R1 to R5.

// R1: every call returns, and none panics; R2: with an error the other results are zero.
func TestCallsReturn(t *testing.T) {
	for _, x := range odd() {
		for _, pair := range [][2]api.Term{{x, fun("a")}, {variable(0), x}} {
			if n, e := compare.Compare(pair[0], pair[1]); e != api.ErrArg || n != 0 {
				t.Errorf("Compare of %s and %s: %d, %d", brief(pair[0]), brief(pair[1]), n, e)
			}
			if s, e := compare.Sort(pair[:]); e != api.ErrArg || len(s) != 0 {
				t.Errorf("Sort of %s and %s: %d terms, %d", brief(pair[0]), brief(pair[1]), len(s), e)
			}
			if compare.Variant(pair[0], pair[1]) {
				t.Errorf("variants: %s and %s", brief(pair[0]), brief(pair[1]))
			}
		}
	}
	if s, e := compare.Sort(odd()); e != api.ErrArg || len(s) != 0 {
		t.Errorf("Sort: %d terms, %d", len(s), e)
	}
}

// R3: a nil list and an empty one are the same.
func TestNilAndEmpty(t *testing.T) {
	for _, x := range []api.Term{variable(3), number(3), fun("a")} {
		y := x
		y.Args = []api.Term{}
		for _, c := range [][2]api.Term{{x, y}, {y, x}, {fun("f", x), fun("f", y)}, {fun("f", y, x), fun("f", x, y)}} {
			if n, e := compare.Compare(c[0], c[1]); e != api.OK || n != 0 {
				t.Errorf("Compare of %s with nil and with empty Args: %d, %d", brief(x), n, e)
			}
			if s, e := compare.Sort(c[:]); e != api.OK || len(s) != 1 || !alike(s[0], c[0]) {
				t.Errorf("Sort of %s with nil and with empty Args: %d terms, %d", brief(x), len(s), e)
			}
			if !compare.Variant(c[0], c[1]) {
				t.Errorf("no variants: %s with nil and with empty Args", brief(x))
			}
		}
	}
	for _, l := range [][]api.Term{nil, {}} {
		if s, e := compare.Sort(l); e != api.OK || len(s) != 0 {
			t.Errorf("Sort of no terms: %d terms, %d", len(s), e)
		}
	}
}

// R3: arguments are not changed, nor what lies behind a list in its memory.
func TestArgumentsStay(t *testing.T) {
	for seed := range 30 {
		whole := slices.Concat(shuffled(ladder(), int64(seed)), anyTerms(40, int64(seed)), []api.Term{fun("behind"), fun("behind", number(4))})
		l := whole[:len(whole)-2]
		if seed%3 == 0 {
			l[len(l)/2] = api.Term{Kind: api.Fun, Args: []api.Term{fun("b"), fun("a")}}
		}
		before := apart(fun("f", whole...)).Args
		compare.Sort(l)
		compare.Sort(l[1:3])
		for i := range l {
			compare.Compare(l[i], l[len(l)-1-i])
			compare.Variant(l[i], l[len(l)-1-i])
		}
		if !allAlike(whole, before) {
			t.Errorf("%d: changed", seed)
		}
	}
}

// R3: what Sort has returned is not changed by later calls.
func TestResultsStay(t *testing.T) {
	l := append(anyTerms(40, 7), ladder()...)
	got, _ := compare.Sort(l)
	before := apart(fun("f", got...)).Args
	for seed := range 10 {
		compare.Sort(shuffled(l, int64(seed)))
		compare.Sort(got)
		compare.Sort(got[3:8])
		compare.Compare(got[seed], got[seed+1])
		compare.Variant(got[seed], got[seed+1])
	}
	if !allAlike(got, before) {
		t.Error("changed")
	}
}

// R4: results depend on the arguments alone: neither on what was asked before, nor on the order of the list.
func TestSameResultsAgain(t *testing.T) {
	l := append(anyTerms(100, 11), rightOnes()...)
	want, _ := compare.Sort(l)
	for seed := range 20 {
		compare.Sort([]api.Term{fun("a"), {}})
		compare.Compare(api.Term{}, l[seed])
		got, e := compare.Sort(shuffled(l, int64(seed)))
		if e != api.OK || !allAlike(got, want) {
			t.Fatal("another result for the same terms")
		}
		for i := range len(l) - 1 {
			first, _ := compare.Compare(l[i], l[i+1])
			again, _ := compare.Compare(l[i], l[i+1])
			if first != again || compare.Variant(l[i], l[i+1]) != compare.Variant(l[i], l[i+1]) {
				t.Fatalf("another result for %s and %s", brief(l[i]), brief(l[i+1]))
			}
		}
	}
}

// R5: Names are compared byte by byte, a prefix first, and numbers by number.
func TestNamesByBytes(t *testing.T) {
	for b := 32; b < 126; b++ {
		low, high := string(rune(b)), string(rune(b+1))
		for _, c := range [][2]string{{low, high}, {"a" + low, "a" + high}, {low + "~~~", high}, {low, low + " "}, {low + low, high}} {
			for _, l := range [][]api.Term{nil, {variable(1)}} {
				n, e := compare.Compare(fun(c[0], l...), fun(c[1], l...))
				m, f := compare.Compare(fun(c[1], l...), fun(c[0], l...))
				if e != api.OK || f != api.OK || n != -1 || m != 1 {
					t.Errorf("Compare of %q and %q: %d, %d; the other way: %d, %d", c[0], c[1], n, e, m, f)
				}
			}
		}
	}
}

// What Sort returns shares no memory with the terms that it was given.
func TestResultsShareNothing(t *testing.T) {
	l := append(anyTerms(40, 5), rightOnes()...)
	before := apart(fun("f", l...)).Args
	got, _ := compare.Sort(l)
	sample.Overwrite(fun("f", got...))
	if !allAlike(l, before) {
		t.Error("changed")
	}
}
