package arith_test

import (
	"math"
	"math/rand"
	"strings"
	"testing"

	"finial/api"
	"finial/sample"
)

// P12.1: Eval.

func TestExample(t *testing.T) {
	checkEval(t, of("//", -7, 2), -3)
	checkEval(t, of("mod", -7, 2), 1)
}

func TestNumbers(t *testing.T) {
	for _, n := range edges() {
		checkEval(t, number(n), n)
	}
}

func TestOperators(t *testing.T) {
	for _, c := range []struct {
		x    api.Term
		want int
	}{
		{of("+", 2, 3), 5}, {of("+", 2, -3), -1}, {of("+", -2, 3), 1}, {of("+", -2, -3), -5}, {of("+", 0, 0), 0}, {of("+", 0, 7), 7}, {of("+", 7, 0), 7}, {of("+", 7, -7), 0},
		{of("-", 2, 3), -1}, {of("-", 3, 2), 1}, {of("-", 2, -3), 5}, {of("-", -2, 3), -5}, {of("-", -2, -3), 1}, {of("-", 0, 7), -7}, {of("-", 7, 0), 7}, {of("-", 7, 7), 0}, {of("-", -7, -7), 0},
		{of("*", 2, 3), 6}, {of("*", 2, -3), -6}, {of("*", -2, 3), -6}, {of("*", -2, -3), 6}, {of("*", 0, 7), 0}, {of("*", 7, 0), 0}, {of("*", 0, -7), 0}, {of("*", 1, 7), 7}, {of("*", -1, 7), -7}, {of("*", 7, -1), -7}, {of("*", 0, 0), 0},
		{of("//", 7, 2), 3}, {of("//", -7, 2), -3}, {of("//", 7, -2), -3}, {of("//", -7, -2), 3}, {of("//", 6, 2), 3}, {of("//", -6, 2), -3}, {of("//", 6, -2), -3}, {of("//", -6, -2), 3}, {of("//", 0, 7), 0}, {of("//", 0, -7), 0}, {of("//", 1, 7), 0}, {of("//", -1, 7), 0}, {of("//", 1, -7), 0}, {of("//", -1, -7), 0}, {of("//", 7, 1), 7}, {of("//", 7, -1), -7}, {of("//", 7, 7), 1}, {of("//", 7, -7), -1}, {of("//", 20, 3), 6},
		{of("mod", 7, 2), 1}, {of("mod", -7, 2), 1}, {of("mod", 7, -2), -1}, {of("mod", -7, -2), -1}, {of("mod", 7, 3), 1}, {of("mod", -7, 3), 2}, {of("mod", 7, -3), -2}, {of("mod", -7, -3), -1}, {of("mod", 6, 3), 0}, {of("mod", -6, 3), 0}, {of("mod", 6, -3), 0}, {of("mod", -6, -3), 0}, {of("mod", 0, 3), 0}, {of("mod", 0, -3), 0}, {of("mod", 1, 7), 1}, {of("mod", -1, 7), 6}, {of("mod", 1, -7), -6}, {of("mod", -1, -7), -1}, {of("mod", 7, 1), 0}, {of("mod", 7, -1), 0}, {of("mod", 20, 7), 6},
		{of("-", 7), -7}, {of("-", -7), 7}, {of("-", 0), 0},
	} {
		checkEval(t, c.x, c.want)
	}
}

// The least and the greatest values, and those beside them, which are none.
func TestBounds(t *testing.T) {
	for _, c := range []struct {
		x    api.Term
		want int
	}{
		{of("+", greatest, 0), greatest}, {of("+", greatest-1, 1), greatest}, {of("+", 1<<62, 1<<62-1), greatest}, {of("+", least, 0), least}, {of("+", 0, least), least}, {of("+", least+1, -1), least}, {of("+", -1<<62, -1<<62), least}, {of("+", least, greatest), -1}, {of("+", greatest, least), -1},
		{of("-", greatest, 0), greatest}, {of("-", 0, greatest), -greatest}, {of("-", -1, greatest), least}, {of("-", -1, least), greatest}, {of("-", least, 0), least}, {of("-", least+1, 1), least}, {of("-", least, least), 0}, {of("-", greatest, greatest), 0}, {of("-", greatest-1, -1), greatest},
		{of("*", greatest, 1), greatest}, {of("*", greatest, -1), -greatest}, {of("*", -1, greatest), -greatest}, {of("*", least, 1), least}, {of("*", 1, least), least}, {of("*", least, 0), 0}, {of("*", 0, least), 0}, {of("*", -1<<62, 2), least}, {of("*", 2, -1<<62), least}, {of("*", 1<<62, -2), least}, {of("*", 1<<31, -1<<32), least}, {of("*", 7, 1317624576693539401), greatest}, {of("*", -7, -1317624576693539401), greatest}, {of("*", 3037000499, 3037000499), 9223372030926249001}, {of("*", -1, -greatest), greatest},
		{of("//", greatest, 1), greatest}, {of("//", greatest, -1), -greatest}, {of("//", least, 1), least}, {of("//", least, least), 1}, {of("//", least, greatest), -1}, {of("//", greatest, least), 0}, {of("//", least, 2), -1 << 62}, {of("//", least, -2), 1 << 62}, {of("//", least+1, -1), greatest}, {of("//", -1, least), 0},
		// A remainder is a value also where the quotient is none.
		{of("mod", least, -1), 0}, {of("mod", least, 1), 0}, {of("mod", least, 2), 0}, {of("mod", least, least), 0}, {of("mod", greatest, least), -1}, {of("mod", least, greatest), greatest - 1}, {of("mod", -1, greatest), greatest - 1}, {of("mod", 1, least), least + 1}, {of("mod", -1, least), -1}, {of("mod", greatest, -1), 0}, {of("mod", greatest, 10), 7}, {of("mod", least, 10), 2}, {of("mod", least, -10), -8},
		{of("-", greatest), -greatest}, {of("-", least+1), greatest},
	} {
		checkEval(t, c.x, c.want)
	}
	for _, x := range []api.Term{
		of("+", greatest, 1), of("+", 1, greatest), of("+", greatest, greatest), of("+", 1<<62, 1<<62), of("+", least, -1), of("+", -1, least), of("+", least, least), of("+", -1<<62, -1<<62-1),
		of("-", greatest, -1), of("-", -2, greatest), of("-", 0, least), of("-", 1, least), of("-", greatest, least), of("-", least, 1), of("-", least, greatest), of("-", greatest, -greatest),
		of("*", greatest, 2), of("*", 2, greatest), of("*", greatest, greatest), of("*", least, -1), of("*", -1, least), of("*", least, 2), of("*", 2, least), of("*", least, least), of("*", 1<<62, 2), of("*", -1<<62, -2), of("*", 1<<31, 1<<32), of("*", -1<<31, -1<<32), of("*", 1<<32, 1<<32), of("*", 1<<33, 1<<33), of("*", 3037000500, 3037000500), of("*", -3037000500, 3037000500), of("*", greatest, -2), of("*", 8, 1317624576693539401),
		of("//", least, -1),
		of("-", least),
	} {
		checkNoValue(t, x, api.ErrEval)
	}
}

func TestDivisorZero(t *testing.T) {
	for _, name := range []string{"//", "mod"} {
		for _, n := range edges() {
			checkNoValue(t, of(name, n, 0), api.ErrEval)
			checkNoValue(t, fun(name, number(n), of("-", n, n)), api.ErrEval)
			checkNoValue(t, fun("+", number(1), of(name, n, 0)), api.ErrEval)
			// A divisor whose own value is an error.
			checkNoValue(t, fun(name, number(n), variable(0)), api.ErrInst)
			checkNoValue(t, fun(name, number(n), fun("0")), api.ErrType)
		}
	}
}

func TestTermsInsideOthers(t *testing.T) {
	for _, c := range []struct {
		x    api.Term
		want int
	}{
		{fun("+", number(1), of("*", 2, 3)), 7}, {fun("*", of("+", 1, 2), number(3)), 9}, {fun("-", of("-", 10, 4), number(3)), 3}, {fun("-", number(10), of("-", 4, 3)), 9},
		{fun("-", fun("-", fun("-", number(3)))), -3}, {fun("-", of("+", 3, 4)), -7}, {fun("//", of("*", 6, 7), of("-", 2, 4)), -21}, {fun("mod", of("-", 7), of("//", 7, 2)), 2},
		{fun("+", of("-", 7), of("-", 8)), -15}, {fun("-", of("-", least, 0), of("+", -1, 1)), least}, {fun("mod", fun("mod", number(-100), number(33)), of("-", 20)), -8},
		{fun("*", fun("+", of("-", 5, 2), of("mod", 9, 4)), fun("-", fun("//", number(9), of("*", 1, 3)))), -12},
	} {
		checkEval(t, c.x, c.want)
	}
	// The value of each of the terms has to be between the bounds, not that of the whole alone.
	for _, x := range []api.Term{
		fun("-", of("+", greatest, 1), number(1)), fun("//", of("*", greatest, 2), number(2)), fun("-", of("-", least)), fun("+", of("-", least, 1), number(1)), fun("*", number(0), of("//", 1, 0)), fun("*", number(0), of("+", greatest, greatest)),
	} {
		checkNoValue(t, x, api.ErrEval)
	}
}

func TestVariables(t *testing.T) {
	for _, x := range []api.Term{
		variable(0), variable(7), variable(api.MaxVar - 1), fun("-", variable(0)), fun("-", fun("-", variable(3))), fun("+", variable(0), number(1)), fun("+", number(1), variable(0)), fun("+", variable(0), variable(1)), fun("-", variable(0), variable(0)), fun("*", number(0), variable(0)), fun("*", variable(0), number(0)), fun("//", variable(0), number(0)), fun("mod", variable(0), number(0)), fun("mod", number(1), variable(0)), fun("//", number(0), variable(5)), fun("+", of("+", 1, 2), fun("*", number(3), fun("-", variable(0)))),
	} {
		checkNoValue(t, x, api.ErrInst)
	}
}

// Funs that are no operators, of whatever Args.
func TestOtherFuns(t *testing.T) {
	for _, name := range []string{"a", "f", "0", "1", "_0", "[]", ".", "/", "rem", "abs", "min", "max", "**", "^", "<<", ">>", "/\\", "\\/", "\\", "is", "=:=", "<", "=", "++", "--", "+ ", " +", "-1", "+-", "//=", "///", "Mod", "MOD", "mo", "mod ", "mode", "m", "div", strings.Repeat("-", 20)} {
		for n := range 9 {
			for _, x := range []api.Term{number(1), variable(0), of("//", 1, 0), of("+", 1, 2), fun("a")} {
				checkNoValue(t, fun(name, times(n, x)...), api.ErrType)
			}
		}
		checkNoValue(t, fun("+", number(1), fun(name)), api.ErrType)
		checkNoValue(t, fun("-", fun(name, number(1))), api.ErrType)
		checkNoValue(t, fun("*", fun(name, number(1), number(2)), number(0)), api.ErrType)
	}
	// Operators, of other numbers of Args.
	for _, name := range []string{"+", "-", "*", "//", "mod"} {
		for n := range 9 {
			if n == 2 || n == 1 && name == "-" {
				continue
			}
			for _, x := range []api.Term{number(1), variable(0), of("mod", 1, 0), fun("a")} {
				checkNoValue(t, fun(name, times(n, x)...), api.ErrType)
				checkNoValue(t, fun("-", fun(name, times(n, x)...)), api.ErrType)
			}
		}
	}
	checkNoValue(t, sample.List(number(1)), api.ErrType)
}

// All names of up to three bytes of those of the operators, of up to three Args.
func TestAllShortNames(t *testing.T) {
	found := 0
	for n := 1; n <= 3; n++ {
		sample.Texts("+-*/mod ", n, func(name string) {
			for args := range 4 {
				if checkByWords(t, of(name, []int{17, 5, 1}[:args]...)) == api.OK {
					found++
				}
			}
		})
	}
	if found != 6 {
		t.Errorf("%d operators, not 6", found)
	}
}

// The errors of the Args come before that of the term, and those of the first Arg before those of the second.
func TestOrderOfErrors(t *testing.T) {
	inst, wrong, eval := variable(0), fun("a"), of("//", 1, 0)
	faults := []struct {
		x api.Term
		e api.Errno
	}{{inst, api.ErrInst}, {wrong, api.ErrType}, {eval, api.ErrEval}, {of("+", greatest, 1), api.ErrEval}, {fun("-", inst), api.ErrInst}, {fun("f", inst), api.ErrType}, {fun("+", number(1), wrong), api.ErrType}}
	for _, name := range []string{"+", "-", "*", "//", "mod"} {
		for _, first := range faults {
			for _, second := range faults {
				checkNoValue(t, fun(name, first.x, second.x), first.e)
				checkNoValue(t, fun(name, number(0), fun(name, first.x, second.x)), first.e)
				checkNoValue(t, fun(name, fun("-", first.x), second.x), first.e)
				checkNoValue(t, fun(name, fun(name, number(7), first.x), second.x), first.e)
				checkNoValue(t, fun("g", first.x, second.x), api.ErrType)
			}
			for _, n := range []int{0, 1, -1, least, greatest} {
				checkNoValue(t, fun(name, first.x, number(n)), first.e)
				checkNoValue(t, fun(name, number(n), first.x), first.e)
			}
			checkNoValue(t, fun("-", first.x), first.e)
		}
	}
}

// A term that is not valid has no other error, wherever the fault is in it.
func TestWrongTerms(t *testing.T) {
	for _, x := range sample.WrongOnes() {
		checkNoValue(t, x, api.ErrArg)
		for _, first := range []api.Term{number(0), variable(0), fun("a"), of("//", 1, 0)} {
			checkNoValue(t, fun("+", first, x), api.ErrArg)
			checkNoValue(t, fun("+", x, first), api.ErrArg)
			checkNoValue(t, fun("f", first, x), api.ErrArg)
		}
		checkNoValue(t, fun("-", x), api.ErrArg)
		checkNoValue(t, fun("mod", number(1), fun("g", x)), api.ErrArg)
	}
	for _, x := range []api.Term{
		{Kind: api.Num, N: 3, Name: "3"}, {Kind: api.Num, N: 3, Args: times(1, number(3))}, {Kind: api.Fun, Name: "+", N: 1, Args: times(2, number(3))}, {Kind: api.Num, N: 3, Name: "+", Args: times(2, number(3))}, {Kind: api.Var, Name: "-", Args: times(1, number(3))},
		{Kind: 0, N: 3}, {Kind: 4, N: 3}, {Kind: 0, Name: "+", Args: times(2, number(3))}, {Kind: 4, Name: "+", Args: times(2, number(3))}, fun("", number(1), number(2)), fun("+", times(9, number(1))...),
	} {
		checkNoValue(t, x, api.ErrArg)
	}
}

func TestVariablesAtTheLimit(t *testing.T) {
	for _, v := range []int{math.MinInt, -1, 0, 999999, 1000000, math.MaxInt} {
		e := api.ErrArg
		if v >= 0 && v <= 999999 {
			e = api.ErrInst
		}
		checkNoValue(t, variable(v), e)
		checkNoValue(t, fun("+", number(v), variable(v)), e)
	}
}

// chain returns x inside n operators: on the right of each if it is to the right, else on the left.
func chain(n int, right bool, x api.Term) api.Term {
	for range n {
		if right {
			x = fun("+", number(1), x)
		} else {
			x = fun("+", x, number(1))
		}
	}
	return x
}

// negated returns x inside n operators - of one Arg.
func negated(n int, x api.Term) api.Term {
	for range n {
		x = fun("-", x)
	}
	return x
}

// total returns a term of n terms in all (n is odd) whose value is the number of its numbers, all of which are 1; the
// last one of them is x.
func total(n int, x api.Term) api.Term {
	if n == 1 {
		return x
	}
	left := (n - 1) / 2
	if left%2 == 0 {
		left--
	}
	return fun("+", total(left, number(1)), total(n-1-left, x))
}

// Terms that are as large and as deep as permitted, and larger and deeper ones.
func TestLargeTerms(t *testing.T) {
	checkEval(t, chain(99, true, number(5)), 104)
	checkEval(t, chain(99, false, number(5)), 104)
	checkNoValue(t, chain(99, true, variable(0)), api.ErrInst)
	checkNoValue(t, chain(99, false, fun("a")), api.ErrType)
	checkNoValue(t, chain(99, true, number(greatest)), api.ErrEval)
	checkEval(t, negated(99, number(7)), -7)
	checkEval(t, negated(98, number(7)), 7)
	for _, x := range []api.Term{number(5), variable(0), fun("a")} {
		checkNoValue(t, chain(100, true, x), api.ErrArg)
		checkNoValue(t, chain(100, false, x), api.ErrArg)
		checkNoValue(t, negated(100, x), api.ErrArg)
		checkNoValue(t, fun("-", total(3001, x)), api.ErrArg)
		checkNoValue(t, total(3001, x), api.ErrArg)
	}
	checkEval(t, total(2999, number(1)), 1500)
	checkEval(t, fun("-", total(2999, number(1))), -1500)
	checkEval(t, total(2999, number(greatest-1499)), greatest)
	checkNoValue(t, total(2999, number(greatest-1498)), api.ErrEval)
	checkNoValue(t, fun("-", total(2999, variable(1))), api.ErrInst)
	checkNoValue(t, fun("-", total(2999, fun("a"))), api.ErrType)
}

// All pairs of numbers where results become too large.
func TestEdgesByWords(t *testing.T) {
	for _, a := range edges() {
		for _, b := range edges() {
			for _, name := range []string{"+", "-", "*", "//", "mod"} {
				checkByWords(t, of(name, a, b))
			}
		}
		checkByWords(t, of("-", a))
	}
}

// All terms of few leaves, with up to two operators inside each other.
func TestSmallTermsByWords(t *testing.T) {
	around := func(l []api.Term) []api.Term {
		var m []api.Term
		for _, x := range l {
			m = append(m, fun("-", x), fun("+", x))
			for _, y := range l {
				for _, name := range []string{"+", "-", "*", "//", "mod", "/"} {
					m = append(m, fun(name, x, y))
				}
			}
		}
		return m
	}
	leaves := []api.Term{variable(0), fun("a"), number(0), number(-1), number(3), number(least)}
	count := map[api.Errno]int{}
	for _, x := range around(append(around(leaves), leaves...)) {
		count[checkByWords(t, x)]++
	}
	for _, e := range []api.Errno{api.OK, api.ErrInst, api.ErrType, api.ErrEval} {
		if count[e] < 10000 {
			t.Errorf("too few of one kind: %v", count)
		}
	}
}

func TestAnyTermsByWords(t *testing.T) {
	r := rand.New(rand.NewSource(510))
	count := map[api.Errno]int{}
	for range 60000 {
		count[checkByWords(t, anyTerm(r, 1+r.Intn(6), 4+r.Intn(60)))]++
	}
	for _, e := range []api.Errno{api.OK, api.ErrInst, api.ErrType, api.ErrEval} {
		if count[e] < 3000 {
			t.Errorf("too few of one kind: %v", count)
		}
	}
}
