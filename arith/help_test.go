package arith_test

import (
	"math"
	"math/big"
	"math/rand"
	"slices"
	"testing"

	"finial/api"
	"finial/arith"
	"finial/sample"
)

const (
	least    = math.MinInt
	greatest = math.MaxInt
)

var (
	variable = sample.Variable
	number   = sample.Number
	fun      = sample.Fun
	times    = sample.Times
	apart    = sample.Apart
	alike    = sample.Alike
	brief    = sample.Brief
)

// of returns the Fun of that name and these numbers.
func of(name string, l ...int) api.Term {
	var args []api.Term
	for _, n := range l {
		args = append(args, number(n))
	}
	return fun(name, args...)
}

// checkEval asks for a value.
func checkEval(t *testing.T, x api.Term, want int) {
	t.Helper()
	if v, e := arith.Eval(x); v != want || e != api.OK {
		t.Errorf("Eval of %s: %d, error %d, not %d", brief(x), v, e, want)
	}
}

// checkNoValue asks for an error.
func checkNoValue(t *testing.T, x api.Term, want api.Errno) {
	t.Helper()
	if v, e := arith.Eval(x); v != 0 || e != want {
		t.Errorf("Eval of %s: %d, error %d, not error %d", brief(x), v, e, want)
	}
}

// checkByWords asks for what the words of the chapter say of a valid term, and returns the error.
func checkByWords(t *testing.T, x api.Term) api.Errno {
	t.Helper()
	want, e := valueByWords(x)
	if e != api.OK {
		checkNoValue(t, x, e)
	} else {
		checkEval(t, x, want)
	}
	return e
}

// checkCompare asks for a comparison.
func checkCompare(t *testing.T, name string, a, b int, want bool) {
	t.Helper()
	if is, e := arith.Compare(name, a, b); is != want || e != api.OK {
		t.Errorf("Compare of %q, %d, %d: %t, error %d", name, a, b, is, e)
	}
}

// checkNoComparison asks for the error of a name that is none.
func checkNoComparison(t *testing.T, name string, a, b int) {
	t.Helper()
	if is, e := arith.Compare(name, a, b); is || e != api.ErrArg {
		t.Errorf("Compare of %.30q, %d, %d: %t, error %d", name, a, b, is, e)
	}
}

// valueByWords returns the value of a valid term, or its error: what is evaluated is listed, each term behind its Args,
// and gone through with a stack of numbers that are never too large.
func valueByWords(t api.Term) (int, api.Errno) {
	var stack []*big.Int
	for _, x := range evaluated(t) {
		switch {
		case x.Kind == api.Var:
			return 0, api.ErrInst
		case x.Kind == api.Num:
			stack = append(stack, big.NewInt(int64(x.N)))
			continue
		case !isOperator(x):
			return 0, api.ErrType
		}
		rest := len(stack) - len(x.Args)
		v := exact(x.Name, stack[rest:])
		if v == nil || !v.IsInt64() {
			return 0, api.ErrEval
		}
		stack = append(stack[:rest], v)
	}
	return int(stack[0].Int64()), api.OK
}

// evaluated returns the terms inside t that are evaluated, in their order.
func evaluated(t api.Term) []api.Term {
	var l []api.Term
	if isOperator(t) {
		for _, x := range t.Args {
			l = append(l, evaluated(x)...)
		}
	}
	return append(l, t)
}

func isOperator(t api.Term) bool {
	switch len(t.Args) {
	case 1:
		return t.Name == "-"
	case 2:
		return slices.Contains([]string{"+", "-", "*", "//", "mod"}, t.Name)
	}
	return false
}

// exact returns what an operator makes of one or two numbers; nil if there is nothing.
func exact(name string, l []*big.Int) *big.Int {
	v := new(big.Int)
	if len(l) == 1 {
		return v.Neg(l[0])
	}
	a, b := l[0], l[1]
	switch name {
	case "+":
		return v.Add(a, b)
	case "-":
		return v.Sub(a, b)
	case "*":
		return v.Mul(a, b)
	}
	if b.Sign() == 0 {
		return nil
	}
	if name == "//" {
		// Towards 0: the quotient of the numbers without their signs.
		v.Div(new(big.Int).Abs(a), new(big.Int).Abs(b))
		return v.Mul(v, big.NewInt(int64(a.Sign()*b.Sign())))
	}
	// Towards the smaller number, by a divisor above 0: Div rounds so.
	if b.Sign() < 0 {
		a, b = new(big.Int).Neg(a), new(big.Int).Neg(b)
	}
	v.Div(a, b)
	return v.Sub(l[0], v.Mul(v, l[1]))
}

// edges returns numbers, small ones and those where results become too large, in increasing order.
func edges() []int {
	l := []int{least}
	for n := range 13 {
		l = append(l, n, -n)
	}
	// The root of 2^63 lies between 3037000499 and 3037000500.
	for _, n := range []int{100, 1 << 31, 1 << 32, 3037000499, 1 << 61, 1 << 62, greatest / 7, greatest / 3, greatest / 2, greatest - 2} {
		for _, m := range []int{n - 1, n, n + 1, n + 2} {
			l = append(l, m, -m)
		}
	}
	slices.Sort(l)
	return slices.Compact(l)
}

// anyNumber returns a number, often a small one or one at an edge.
func anyNumber(r *rand.Rand) int {
	switch r.Intn(4) {
	case 0:
		return r.Intn(7) - 3
	case 1:
		l := edges()
		return l[r.Intn(len(l))]
	case 2:
		return int(r.Uint64()) >> r.Intn(64)
	}
	return r.Intn(200) - 100
}

// anyTerm returns a valid term of that depth at most; one of odds leaves has no value, and as many Funs.
func anyTerm(r *rand.Rand, depth, odds int) api.Term {
	if depth == 1 || r.Intn(6) == 0 {
		if r.Intn(odds) == 0 {
			return []api.Term{variable(0), variable(r.Intn(9)), fun("a"), fun("mod")}[r.Intn(4)]
		}
		return number(anyNumber(r))
	}
	if r.Intn(odds) == 0 {
		l := []api.Term{}
		for range 1 + r.Intn(3) {
			l = append(l, anyTerm(r, depth-1, odds))
		}
		return fun([]string{"-", "+", "/", "rem", "f"}[r.Intn(5)], l...)
	}
	if r.Intn(6) == 0 {
		return fun("-", anyTerm(r, depth-1, odds))
	}
	return fun([]string{"+", "-", "*", "//", "mod"}[r.Intn(5)], anyTerm(r, depth-1, odds), anyTerm(r, depth-1, odds))
}
