package embed_test

import (
	"math"
	"math/rand"
	"strings"
	"testing"

	"finial/api"
	"finial/sample"
	"finial/term"
)

// P7.1: In; each check asks Whistle too, of a list of one term.

func TestExample(t *testing.T) {
	a, b := fun("a"), fun("b")
	checkIn(t, fun("f", a), fun("f", fun("g", a)), true)
	checkIn(t, fun("f", a), fun("g", fun("f", a), b), true)
	checkIn(t, fun("f", a, b), fun("f", b, a), false)
}

func TestIn(t *testing.T) {
	a, b, x, y, far := fun("a"), fun("b"), variable(0), variable(1), variable(api.MaxVar-1)
	for _, c := range [][2]api.Term{
		{a, a}, {fun("f", a, b), fun("f", a, b)}, {fun("_0"), fun("_0")}, {fun("A b(,"), fun("g", fun("A b(,"))},
		// Any Var is embedded in any other one, and any Num in any other one.
		{x, x}, {x, y}, {y, x}, {far, x}, {x, far}, {number(0), number(0)}, {number(1), number(2)}, {number(2), number(-1)}, {number(math.MinInt), number(math.MaxInt)}, {number(math.MaxInt), number(math.MinInt)},
		{fun("f", x), fun("f", y)}, {fun("f", x, x), fun("f", x, y)}, {fun("f", x, y), fun("f", x, x)}, {fun("f", x, y), fun("f", y, x)}, {fun("f", number(1), number(2)), twice(number(3))}, {twice(number(3)), fun("f", number(1), number(2))}, {fun("f", x, number(1)), fun("f", y, number(0))},
		// In one of the Args, the first one, the last one or one between, at any depth.
		{a, fun("g", a)}, {a, fun("g", a, b)}, {a, fun("g", b, a)}, {a, fun("g", b, a, b)}, {a, fun("g", fun("g", b, fun("g", a)), b)}, {x, fun("g", y)}, {x, fun("g", a, fun("g", b, y))}, {number(1), fun("g", a, fun("g", x, number(5)))}, {a, deep(99, a)}, {x, deep(99, y)},
		{fun("f", a), fun("g", fun("f", a))}, {fun("f", a), fun("g", b, fun("f", a))}, {fun("f", a), fun("f", fun("f", a))}, {fun("f", a), fun("f", b, fun("f", a))}, {fun("f", a), fun("f", fun("f", a), a)}, {fun("f", a), fun("f", fun("g", fun("f", a)))}, {fun("a"), fun("a", fun("a"))}, {twice(x), fun("f", a, twice(y))},
		// With further terms between, above each of the parts or above some.
		{fun("f", x), fun("f", fun("g", y))}, {fun("f", a, b), fun("f", fun("g", a), b)}, {fun("f", a, b), fun("f", a, fun("g", b))}, {fun("f", a, b), fun("f", fun("g", a), fun("h", fun("k", b)))}, {fun("f", fun("g", a)), fun("f", fun("h", fun("g", fun("h", a))))}, {fun("f", fun("g", a)), fun("h", fun("f", fun("g", fun("g", a))))}, {fun("f", fun("f", a)), fun("f", fun("g", fun("f", fun("g", a))))}, {fun("f", fun("g", a), b), fun("f", fun("h", fun("g", b, a), fun("g", fun("h", a))), fun("h", b, b))},
		{fun("f", a, b), fun("f", fun("f", a, b), b)}, {fun("f", a, b), fun("f", a, fun("f", a, b))}, {fun("f", a, b), fun("f", b, fun("f", a, b))}, {fun("f", a, b), fun("f", fun("f", b, a), fun("f", a, b))}, {twice(a), twice(twice(a))}, {twice(a), fun("f", fun("g", b, a), fun("g", a, b))}, {fun("f", a, b), fun("f", fun("g", b, a), fun("g", b, a))},
		// The same part of the second one can hold several parts of the first one, where these are Args of different terms.
		{fun("f", fun("g", a)), fun("f", fun("g", fun("g", a)))}, {fun("p", fun("s", x), y), fun("p", fun("s", fun("s", x)), y)}, {fun("p", fun("s", x), y), fun("p", fun("s", x), fun("s", y))}, {fun("app", fun(".", number(1), x), y), fun("app", fun(".", number(2), fun(".", number(3), y)), fun("g", x))},
		{fun("f", times(8, a)...), fun("f", times(8, fun("g", a))...)}, {fun("f", times(8, x)...), fun("f", sample.Variables(4, 8)...)}, {fun("f", times(8, x)...), fun("g", append(times(7, a), fun("f", times(8, y)...))...)}, {fun("f", times(8, x)...), fun("f", append(times(7, x), fun("g", y))...)},
	} {
		checkIn(t, c[0], c[1], true)
		if !embeddedByWords(c[0], c[1]) {
			t.Errorf("by the words %s is not embedded in %s", brief(c[0]), brief(c[1]))
		}
	}
}

func TestNotIn(t *testing.T) {
	a, b, x, y := fun("a"), fun("b"), variable(0), variable(1)
	for _, c := range [][2]api.Term{
		// Vars, Nums and Funs are not embedded in each other, unless there is one of the same kind inside.
		{x, a}, {a, x}, {x, number(0)}, {number(0), x}, {a, number(0)}, {number(0), a}, {number(0), fun("0")}, {fun("0"), number(0)}, {fun("_0"), x}, {x, fun("_0")}, {x, fun("f", a, number(0))}, {number(1), fun("f", a, variable(1))}, {a, fun("f", x, number(0), b)},
		{fun("f", x), fun("f", a)}, {fun("f", a), fun("f", x)}, {fun("f", number(0)), fun("f", x)}, {fun("f", x), fun("f", number(0))}, {fun("f", x), x}, {fun("f", number(0)), number(0)}, {fun("f", x), fun("g", y)}, {fun("f", x, number(0)), fun("f", number(0), x)},
		// Other Names, or another number of Args.
		{a, b}, {a, fun("A")}, {a, fun("a ")}, {a, fun("aa")}, {fun("aa"), a}, {a, fun("a", b)}, {fun("a", b), a}, {fun("a", b), b}, {fun("f", a), fun("g", a)}, {fun("f", a), fun("f", a, a)}, {fun("f", a, a), fun("f", a)}, {fun("f", a), fun("ff", a)}, {fun("f"), fun("f", x)}, {fun("f", a), fun("f", a, fun("f", b))}, {fun("f", times(8, a)...), fun("f", times(7, a)...)}, {fun("f", times(7, a)...), fun("f", times(8, a)...)},
		// A part is not embedded in the term of which it is one the other way round.
		{fun("g", a), a}, {fun("g", fun("g", a)), fun("g", a)}, {fun("f", fun("g", a)), fun("f", a)}, {fun("f", fun("g", a)), fun("g", fun("f", a))}, {fun("g", fun("f", a)), fun("f", fun("g", a))}, {twice(twice(a)), twice(a)}, {twice(twice(a)), twice(fun("g", a))}, {deep(99, a), deep(98, a)},
		// Each Arg counts, at its own place.
		{fun("f", a, b), fun("f", a, a)}, {fun("f", a, b), fun("f", b, b)}, {fun("f", a, b), fun("f", b, fun("g", a, b))}, {fun("f", a, b), fun("f", fun("g", a, b), a)}, {fun("f", a, b, a), fun("f", a, fun("g", a), a)}, {fun("f", fun("g", a), fun("g", b)), fun("f", fun("g", b), fun("g", a))}, {fun("f", fun("g", a, b)), fun("f", fun("g", a), fun("g", b))}, {fun("f", fun("g", a, b)), fun("f", fun("g", fun("h", b), fun("h", a)))},
		{fun("f", times(8, a)...), fun("f", append(times(7, a), b)...)}, {fun("f", times(8, a)...), fun("f", append([]api.Term{b}, times(7, a)...)...)}, {fun("f", times(8, x)...), fun("f", append(times(7, x), number(0))...)},
		// The parts are there, but not below one Fun that is the same.
		{fun("f", a, b), fun("g", fun("f", a, a), fun("f", b, b))}, {fun("f", a, b), fun("g", a, b)}, {fun("f", fun("g", a)), fun("f", fun("h", a), fun("g", a))}, {fun("f", fun("g", a)), fun("h", fun("f", b), fun("g", a))}, {twice(fun("g", a)), fun("f", fun("g", a), fun("g", b))}, {fun("f", fun("f", fun("f", a))), fun("f", fun("g", fun("f", a)))}, {fun("app", fun(".", number(1), x), y), fun("app", fun(".", number(2), fun(".", number(3), fun("[]"))), x)},
	} {
		checkIn(t, c[0], c[1], false)
		if embeddedByWords(c[0], c[1]) {
			t.Errorf("by the words %s is embedded in %s", brief(c[0]), brief(c[1]))
		}
	}
}

// Both must be valid, also where one of them, or a part of it, would be embedded.
func TestInOfWrongTerms(t *testing.T) {
	for _, x := range wrongOnes() {
		for _, y := range []api.Term{fun("a"), variable(0), number(0), fun("f", variable(1)), x, {}} {
			checkRefused(t, x, y)
		}
		checkRefused(t, x, fun("f", x))
		checkRefused(t, x, fun("f", fun("a"), x))
		for _, part := range x.Args[:min(len(x.Args), 9)] {
			checkRefused(t, part, x)
		}
	}
}

func TestBounds(t *testing.T) {
	for _, v := range []int{math.MinInt, -api.MaxVar, -1, 0, 1, 999998, 999999, 1000000, 1000001, math.MaxInt} {
		is := v >= 0 && v <= 999999
		checkIn(t, variable(v), variable(3), is)
		checkIn(t, variable(3), variable(v), is)
		checkIn(t, variable(v), variable(v), is)
		checkIn(t, fun("f", variable(v)), fun("f", fun("g", variable(3))), is)
		checkIn(t, fun("a"), fun("f", variable(v), fun("a")), is)
		checkIn(t, number(v), number(3), true)
		checkIn(t, number(3), fun("f", number(v)), true)
	}
	for n := 7; n <= 9; n++ {
		checkIn(t, fun("f", times(n, variable(2))...), fun("f", times(n, variable(3))...), n <= 8)
		checkIn(t, fun("a"), fun("f", times(n, fun("a"))...), n <= 8)
	}
	for n := 19; n <= 21; n++ {
		name := strings.Repeat("x", n)
		checkIn(t, fun(name), fun(name), n <= 20)
		checkIn(t, fun("a"), fun(name, fun("a")), n <= 20)
	}
}

func TestInOfRightTerms(t *testing.T) {
	for _, x := range rightOnes() {
		for _, y := range rightOnes() {
			if term.Size(x)*term.Size(y) < 30000 {
				checkIn(t, x, y, embeddedByWords(x, y))
			}
		}
	}
}

// Terms that are as large as permitted, and larger ones.
func TestInOfLargeTerms(t *testing.T) {
	b := fun("b")
	for _, leaf := range []api.Term{fun("a"), number(4), variable(3)} {
		for n := 2999; n <= 3001; n++ {
			right := n <= 3000
			checkIn(t, sized(n, leaf), sized(n, leaf), right)
			checkIn(t, leaf, sized(n, leaf), right)
			checkIn(t, b, sized(n, leaf), false)
			checkIn(t, sized(n, leaf), sized(n, b), false)
			checkIn(t, fun("f", sized(n-1, leaf)), fun("f", sized(n-1, leaf)), right)
		}
		for n := 98; n <= 101; n++ {
			right := n <= 99
			checkIn(t, deep(n, leaf), deep(n, leaf), right)
			checkIn(t, deep(n-1, leaf), deep(n, leaf), right)
			checkIn(t, deep(n, leaf), deep(n-1, leaf), false)
			checkIn(t, deep(n, leaf), deep(n, b), false)
			checkIn(t, deep(n-50, leaf), deep(n, leaf), right)
			checkIn(t, fun("g", leaf), deep(n, leaf), false)
			checkIn(t, fun("g", leaf), deep(n-1, fun("g", leaf)), right)
		}
		checkIn(t, spine(100, 1, leaf), spine(100, 2, leaf), false)
		checkIn(t, spine(99, 7, leaf), spine(100, 7, leaf), true)
		checkIn(t, spine(100, 7, leaf), spine(99, 7, leaf), false)
		checkIn(t, spine(100, 7, leaf), spine(100, 7, leaf), true)
		checkIn(t, spine(100, 7, leaf), spine(100, 7, b), false)
	}
}

// A term as large as permitted with one leaf of another kind, wherever that is.
func TestOneLeafOfMany(t *testing.T) {
	whole := sized(3000, variable(0))
	leaves := strings.Count(sample.Text(whole), "1\"\"0()")
	for _, at := range []int{0, 1, 1000, 2000, leaves - 2, leaves - 1} {
		other := withNumber(whole, at)
		if alike(whole, other) {
			t.Fatalf("no leaf %d of %d", at, leaves)
		}
		checkIn(t, other, whole, false)
		checkIn(t, whole, other, false)
		checkIn(t, other, other, true)
		checkIn(t, number(5), other, true)
	}
}

// withNumber returns t with a Num in the place of its Var at that place, counted from the left.
func withNumber(t api.Term, at int) api.Term {
	t = apart(t)
	var each func(x *api.Term)
	each = func(x *api.Term) {
		if x.Kind == api.Var {
			if at == 0 {
				*x = number(0)
			}
			at--
		}
		for i := range x.Args {
			each(&x.Args[i])
		}
	}
	each(&t)
	return t
}

func TestInFollowsTheWords(t *testing.T) {
	r := rand.New(rand.NewSource(81))
	count := map[bool]int{}
	for range 30000 {
		a, b := anyPair(r)
		if r.Intn(3) == 0 {
			a, b = b, a
		}
		is := embeddedByWords(a, b)
		checkIn(t, a, b, is)
		count[is]++
	}
	if count[true] < 8000 || count[false] < 8000 {
		t.Errorf("too few of one kind: %v", count)
	}
}

// By another definition: what is embedded in a term is what it becomes if parts of it are replaced by their Args.
func TestInByShrinking(t *testing.T) {
	l := smallOnes()
	for _, x := range smallOnes()[:30] {
		l = append(l, fun("g", x), fun("f", x, fun("a")), fun("f", fun("g", variable(1)), x), fun("g", x, fun("a"), number(3)))
	}
	count := map[bool]int{}
	for _, y := range l {
		texts := shrunk(y)
		for _, x := range l {
			_, is := texts[sample.Text(plain(x))]
			checkIn(t, x, y, is)
			count[is]++
		}
	}
	r := rand.New(rand.NewSource(82))
	for range 3000 {
		a, b := anyPair(r)
		if term.Size(b) > 10 {
			continue
		}
		_, is := shrunk(b)[sample.Text(plain(a))]
		checkIn(t, a, b, is)
		count[is]++
	}
	if count[true] < 2000 || count[false] < 2000 {
		t.Errorf("too few of one kind: %v", count)
	}
}
