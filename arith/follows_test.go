package arith_test

import (
	"math/rand"
	"testing"

	"finial/api"
	"finial/arith"
)

// P12.3: what a // b and a mod b have to do with each other.

// value returns the value of a term that has one.
func value(t *testing.T, x api.Term) int {
	t.Helper()
	v, e := arith.Eval(x)
	if e != api.OK {
		t.Errorf("Eval of %s: error %d", brief(x), e)
	}
	return v
}

// checkDivision divides a by b, which is not 0; a // b has to be a value.
func checkDivision(t *testing.T, a, b int) {
	t.Helper()
	q := of("//", a, b)
	whole := fun("*", q, number(b))
	rest := value(t, fun("-", number(a), whole))
	// The remainder of a division rounded towards 0: nearer to 0 than b, and on the side of a.
	if min(rest, -rest) <= min(b, -b) || rest != 0 && (rest < 0) != (a < 0) {
		t.Errorf("%d // %d leaves %d", a, b, rest)
	}
	checkEval(t, fun("+", whole, number(rest)), a)
	m := value(t, of("mod", a, b))
	if m != rest && m != rest+b {
		t.Errorf("%d mod %d is %d, the remainder %d", a, b, m, rest)
	}
	if !between(m, b) {
		t.Errorf("%d mod %d is %d, not between 0 and the divisor", a, b, m)
	}
	checkEval(t, fun("mod", number(m), number(b)), m)
}

// between reports whether n is 0, or lies between 0 and b.
func between(n, b int) bool {
	return n == 0 || 0 < n && n < b || b < n && n < 0
}

func TestDivision(t *testing.T) {
	for a := -40; a <= 40; a++ {
		for b := -40; b <= 40; b++ {
			if b != 0 {
				checkDivision(t, a, b)
			}
		}
	}
}

func TestDivisionOfEdges(t *testing.T) {
	for _, a := range edges() {
		for _, b := range edges() {
			if b != 0 && (a != least || b != -1) {
				checkDivision(t, a, b)
			}
		}
	}
}

func TestDivisionOfAnyNumbers(t *testing.T) {
	r := rand.New(rand.NewSource(530))
	done := 0
	for range 20000 {
		a, b := anyNumber(r), anyNumber(r)
		if b != 0 && (a != least || b != -1) {
			checkDivision(t, a, b)
			done++
		}
	}
	if done < 10000 {
		t.Errorf("too few: %d", done)
	}
}

// The result of mod is the same for numbers that differ by a multiple of the divisor.
func TestModRepeats(t *testing.T) {
	for b := -20; b <= 20; b++ {
		if b == 0 {
			continue
		}
		m := 0
		for a := -100 * b; a != 100*b; a += b {
			for step := range max(b, -b) {
				checkEval(t, of("mod", a+step, b), value(t, of("mod", m+step, b)))
			}
		}
	}
}
