package write_test

import (
	"math"
	"math/rand"
	"strings"
	"testing"

	"finial/api"
	"finial/read"
	"finial/sample"
	"finial/term"
	"finial/write"
)

// P10.3: what is printed is read as what it was printed for.

// checkRead asks for x, renumbered, when its text is read.
func checkRead(t *testing.T, x api.Term) {
	t.Helper()
	s, e := write.Term(x)
	if e != api.OK {
		t.Errorf("Term of %s: error %d", sample.Brief(x), e)
		return
	}
	want, n, _ := term.Number([]api.Term{x})
	got, at, e := read.One(s + " .")
	if e != api.OK || at != 0 || !sample.Alike(got.T, want[0]) || len(got.Names) != n {
		t.Errorf("One of %s: %s with %d names, error %d at %d, not %s", brief(s), sample.Brief(got.T), len(got.Names), e, at, sample.Brief(want[0]))
	}
}

func TestReadAgain(t *testing.T) {
	for _, x := range sample.SmallOnes() {
		checkRead(t, x)
	}
	for _, x := range sample.RightOnes() {
		// With the space and the point more than 7998 bytes would be too large a text for read.
		if s := termByWords(x); len(s) <= 7998 && !strings.Contains(s, "9223372036854775808") {
			checkRead(t, x)
		}
	}
	for _, n := range []int{0, 1, -1, 9, -10, math.MaxInt, -math.MaxInt} {
		checkRead(t, number(n))
		checkRead(t, fun("-", number(n)))
		checkRead(t, fun("-", number(1), number(n)))
		checkRead(t, list(fun("-"), number(n)))
		checkRead(t, pair(number(n), number(n)))
	}
	checkRead(t, fun("f", variable(5), variable(0), variable(999999), variable(5)))
	checkRead(t, pair(variable(1), pair(variable(10), variable(1))))
	for n := 1; n <= 7998; n += 17 {
		checkRead(t, long(n))
	}
	checkRead(t, long(7998))
}

// All names, of one byte and of two, wherever one can stand.
func TestNamesReadAgain(t *testing.T) {
	check := func(name string) {
		x := fun(name)
		checkRead(t, x)
		checkRead(t, fun(name, x))
		checkRead(t, fun(name, x, x))
		checkRead(t, pair(x, x))
	}
	texts(everyByte(), 1, check)
	texts(everyByte(), 2, check)
}

// Terms of easily mistaken names next to each other: none of them is read as an operator, and none becomes one token
// with what stands next to it.
func TestNeighboursReadAgain(t *testing.T) {
	leaves := []api.Term{variable(2), number(0), number(-3), list(number(-1)), pair(fun("-"), number(1))}
	for _, x := range names() {
		leaves = append(leaves, fun(x), fun(x, number(1)), fun(x, number(-1), variable(0)))
	}
	for _, x := range leaves {
		for _, y := range leaves {
			checkRead(t, pair(x, y))
			checkRead(t, list(x, y))
			checkRead(t, fun("-", x, y))
			checkRead(t, fun("\\+", fun(".", x), y))
		}
	}
}

func TestAnyReadAgain(t *testing.T) {
	r := rand.New(rand.NewSource(304))
	count := 0
	for range 40000 {
		if x := anyTerm(r, 1+r.Intn(6)); len(termByWords(x)) <= 7998 {
			checkRead(t, x)
			count++
		}
	}
	if count < 30000 {
		t.Errorf("only %d terms", count)
	}
}

// Terms that differ have different texts: otherwise one of them would not be read again.
func TestDifferentTexts(t *testing.T) {
	r := rand.New(rand.NewSource(305))
	seen := map[string]string{}
	l := sample.SmallOnes()
	for range 20000 {
		l = append(l, anyTerm(r, 1+r.Intn(3)))
	}
	for _, x := range l {
		s, e := write.Term(x)
		if e != api.OK {
			t.Errorf("Term of %s: error %d", sample.Brief(x), e)
			continue
		}
		if other, old := seen[s]; old && other != sample.Text(x) {
			t.Errorf("%s is the text of %s and of %s", brief(s), brief(other), sample.Brief(x))
		}
		seen[s] = sample.Text(x)
	}
}
