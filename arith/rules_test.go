package arith_test

import (
	"math/rand"
	"strings"
	"sync"
	"testing"

	"finial/api"
	"finial/arith"
	"finial/sample"
)

// P0, for the calls of this package: the rules R1 to R5.

// R1: every call returns, and none panics.
func TestCallsReturn(t *testing.T) {
	for _, x := range sample.Odd() {
		checkNoValue(t, x, api.ErrArg)
		checkNoValue(t, fun("+", x, x), api.ErrArg)
		checkNoValue(t, api.Term{Kind: api.Fun, Name: "-", N: 1, Args: times(1, x)}, api.ErrArg)
	}
	for _, x := range append(sample.RightOnes(), sample.SmallOnes()...) {
		checkByWords(t, x)
	}
	for _, name := range []string{"", "\x00", "\xff\xfe", "漢", strings.Repeat("=", 1<<22)} {
		for _, n := range edges() {
			checkNoComparison(t, name, n, -n)
		}
	}
}

// R1: a term that is its own Arg, and one that is larger than its memory.
func TestEndlessTerms(t *testing.T) {
	for _, name := range []string{"-", "+", "f"} {
		args := make([]api.Term, 1)
		args[0] = fun(name, args...)
		checkNoValue(t, args[0], api.ErrArg)
		pair := make([]api.Term, 2)
		pair[0], pair[1] = number(1), fun(name, pair...)
		checkNoValue(t, pair[1], api.ErrArg)
		big := number(1)
		for range 60 {
			big = fun(name, big, big)
		}
		checkNoValue(t, big, api.ErrArg)
	}
	// A valid one whose parts are shared: they count at each of their places.
	shared := number(1)
	for range 10 {
		shared = fun("+", shared, shared)
	}
	checkEval(t, shared, 1024)
}

// R2: with an error, the other results are zero; and what is told first of several errors.
func TestErrorsAlone(t *testing.T) {
	checkNoValue(t, fun("+", number(5), variable(0)), api.ErrInst)
	checkNoValue(t, fun("+", number(5), fun("a")), api.ErrType)
	checkNoValue(t, of("//", 5, 0), api.ErrEval)
	checkNoValue(t, of("+", greatest, greatest), api.ErrEval)
	checkNoValue(t, fun("+", variable(0), fun("+", fun("a"), variable(-1))), api.ErrArg)
	checkNoComparison(t, "=", 5, 5)
	checkNoComparison(t, "", 5, 5)
}

// R3: arguments are not changed, nor what lies behind a list in its memory.
func TestArgumentsStay(t *testing.T) {
	r := rand.New(rand.NewSource(540))
	for range 500 {
		l := append(make([]api.Term, 0, 4), anyTerm(r, 5, 9), anyTerm(r, 5, 50), anyTerm(r, 2, 9), api.Term{Kind: 9})
		before := apart(fun("f", l...))
		for _, x := range l {
			arith.Eval(x)
		}
		arith.Eval(fun("+", l[:2]...))
		arith.Eval(fun("-", l[1:2]...))
		arith.Eval(fun("f", l[:3]...))
		if !alike(fun("f", l...), before) {
			t.Errorf("changed: %s", brief(before))
		}
	}
}

// R3: a nil list and an empty one are the same.
func TestNilAndEmpty(t *testing.T) {
	empty := func(x api.Term) api.Term {
		x.Args = []api.Term{}
		return x
	}
	checkEval(t, empty(number(7)), 7)
	checkEval(t, fun("-", empty(number(7))), -7)
	checkNoValue(t, empty(variable(7)), api.ErrInst)
	checkNoValue(t, empty(fun("a")), api.ErrType)
	checkNoValue(t, empty(fun("-")), api.ErrType)
}

// R4: results depend on the arguments alone, not on what was asked before or is asked at the same time.
func TestSameResultsAgain(t *testing.T) {
	r := rand.New(rand.NewSource(550))
	var l []api.Term
	for range 200 {
		l = append(l, anyTerm(r, 5, 20))
	}
	var group sync.WaitGroup
	for i := range 4 {
		group.Add(1)
		go func() {
			defer group.Done()
			for k := range l {
				x := l[(k*7+i*50)%len(l)]
				arith.Eval(api.Term{})
				checkByWords(t, x)
				checkNoComparison(t, "a", k, i)
				checkComparisons(t, k, 100, k-100)
				checkByWords(t, x)
			}
		}()
	}
	group.Wait()
}

// R5: names are compared byte by byte.
func TestNamesByteByByte(t *testing.T) {
	for _, name := range []string{"+", "-", "*", "//", "mod"} {
		checkByWords(t, of(name, 17, -5))
		for i := range len(name) {
			for b := 32; b <= 126; b++ {
				other := name[:i] + string(rune(b)) + name[i+1:]
				checkByWords(t, of(other, 17, -5))
				checkByWords(t, of(name[:i]+string(rune(b))+name[i:], 17, -5))
			}
		}
	}
}
