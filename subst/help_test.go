package subst_test

import (
	"math"
	"math/rand"

	"finial/api"
	"finial/sample"
	"finial/term"
)

var (
	variable = sample.Variable
	number   = sample.Number
	fun      = sample.Fun
	times    = sample.Times
	deep     = sample.Deep
	sized    = sample.Sized
	twice    = sample.Twice

	rightOnes = sample.RightOnes
	wrongOnes = sample.WrongOnes
	odd       = sample.Odd

	bind  = sample.Bind
	binds = sample.Binds

	apart      = sample.Apart
	apartBinds = sample.ApartBinds
	alike      = sample.Alike
	alikeBinds = sample.AlikeBinds
	brief      = sample.Brief

	becomesByWords = sample.Becomes
)

// steps binds each of n variables from 0 on to what step makes of the next one.
func steps(n int, step func(next api.Term) api.Term) []api.Bind {
	var l []api.Bind
	for i := range n {
		l = append(l, bind(i, step(variable(i+1))))
	}
	return l
}

func next(x api.Term) api.Term   { return x }
func deeper(x api.Term) api.Term { return fun("f", x) }

// balanced is the full tree of that many levels above its leaves x.
func balanced(levels int, x api.Term) api.Term {
	for range levels {
		x = twice(x)
	}
	return x
}

// shuffled returns the binds in another order.
func shuffled(l []api.Bind, seed int64) []api.Bind {
	m := append([]api.Bind{}, l...)
	rand.New(rand.NewSource(seed)).Shuffle(len(m), func(i, j int) { m[i], m[j] = m[j], m[i] })
	return m
}

// anyBinds returns up to 5 binds of 6 variables: most of them bind no variable twice, and many are valid.
func anyBinds(r *rand.Rand) []api.Bind {
	vars := r.Perm(6)
	if r.Intn(8) == 0 {
		vars[1] = vars[0]
	}
	var l []api.Bind
	for _, v := range vars[:r.Intn(6)] {
		l = append(l, bind(v, sample.AnyTerm(r.Intn, 6, 1+r.Intn(3))))
	}
	return l
}

// anyRightBinds returns a valid substitution of up to 12 binds, in any order; a few of them make terms that are too large.
func anyRightBinds(r *rand.Rand) []api.Bind {
	n := 1 + r.Intn(12)
	names := r.Perm(n + 3)
	var l []api.Bind
	for i := range n {
		if r.Intn(8) > 0 {
			// Each variable leads to the next three alone: so to none back, and in many steps.
			t, _ := term.Shift(anyWide(r), i+1)
			l = append(l, bind(names[i], renamed(t, names)))
		}
	}
	r.Shuffle(len(l), func(i, j int) { l[i], l[j] = l[j], l[i] })
	return l
}

// anyWide returns a term of the variables 0 to 2, which occur in it often enough to make large terms.
func anyWide(r *rand.Rand) api.Term {
	t := sample.AnyTerm(r.Intn, 3, 1+r.Intn(3))
	for range 3 * r.Intn(2) {
		t = fun("w", t, variable(r.Intn(3)), sample.AnyTerm(r.Intn, 3, 2))
	}
	return t
}

func renamed(t api.Term, names []int) api.Term {
	if t.Kind == api.Var {
		return variable(names[t.N])
	}
	var l []api.Term
	for _, x := range t.Args {
		l = append(l, renamed(x, names))
	}
	t.Args = l
	return t
}

// The words of the chapter, followed step by step and without regard to room.

// leads returns the variables to which the variable v leads.
func leads(l []api.Bind, v int) map[int]bool {
	found := map[int]bool{}
	work := []int{v}
	for len(work) > 0 {
		v, work = work[0], work[1:]
		for _, b := range l {
			if b.V != v {
				continue
			}
			for _, w := range term.Vars([]api.Term{b.T}) {
				if !found[w] {
					found[w] = true
					work = append(work, w)
				}
			}
		}
	}
	return found
}

func rightByWords(l []api.Bind) bool {
	for i, b := range l {
		if b.V < 0 || b.V > 999999 || !term.Right(b.T) || leads(l, b.V)[b.V] {
			return false
		}
		for _, c := range l[:i] {
			if c.V == b.V {
				return false
			}
		}
	}
	return true
}

// wrongBinds returns lists that are no valid substitutions, with one fault each.
func wrongBinds() [][]api.Bind {
	a, x, y, z := fun("a"), variable(0), variable(1), variable(2)
	var l [][]api.Bind
	for _, v := range []int{-1, api.MaxVar, api.MaxVar + 1, -api.MaxVar, math.MinInt, math.MaxInt} {
		l = append(l, []api.Bind{bind(v, a)}, []api.Bind{bind(0, a), bind(v, a), bind(1, a)}, []api.Bind{bind(0, a), bind(1, a), bind(v, z)})
	}
	for _, t := range wrongOnes() {
		l = append(l, []api.Bind{bind(0, t)}, []api.Bind{bind(3, a), bind(0, t)}, []api.Bind{bind(0, t), bind(3, a)})
	}
	l = append(l,
		// A variable bound twice, also to the same term, and also if that is of no account.
		[]api.Bind{bind(0, a), bind(0, a)}, []api.Bind{bind(0, a), bind(0, fun("b"))}, []api.Bind{bind(0, a), bind(0, z)},
		[]api.Bind{bind(5, a), bind(0, a), bind(7, z), bind(8, y), bind(5, a)}, []api.Bind{bind(0, y), bind(1, a), bind(2, a), bind(1, a)},
		// A variable that leads to itself.
		binds(x), binds(fun("f", x)), binds(fun("f", a, fun("g", y), fun("g", x))), binds(deep(api.MaxDeep-1, x)),
		binds(y, x), binds(fun("f", y), x), binds(y, fun("f", x)), binds(fun("f", y), fun("f", x)), binds(fun("f", y, z), a, x), binds(fun("f", y, z), a, fun("g", a, y, x)),
		// One that leads to such a variable, without being one.
		binds(y, y), binds(fun("f", y, z), a, z), binds(a, z, variable(3), fun("f", z)), binds(y, z, variable(3), z),
	)
	for _, n := range []int{2, 3, 10, 99, 100, 101, 1000} {
		for _, step := range []func(api.Term) api.Term{next, deeper, twice} {
			ring := steps(n, step)
			ring[n-1].T = step(x)
			l = append(l, ring, shuffled(ring, int64(n)), append(binds(ring[n-1].T), ring[1:]...), append(shuffled(ring, 1), bind(n+1, variable(n/2))))
		}
	}
	return l
}

// rightBinds returns valid substitutions of all kinds.
func rightBinds() [][]api.Bind {
	a, x, y, z := fun("a"), variable(0), variable(1), variable(2)
	l := [][]api.Bind{
		nil, {}, binds(a), binds(number(-5)), binds(y), binds(fun("f", y)), binds(fun("f", y), a), binds(fun("f", y, y, z), fun("g", z, z)),
		binds(y, z, a), binds(y, z, variable(3)), binds(z, z), binds(fun("f", y), fun("g", z), fun("h", variable(3))),
		{bind(0, a), bind(api.MaxVar-1, x)}, {bind(0, variable(api.MaxVar-1))}, {bind(api.MaxVar-1, x)},
		// Several ways lead to one variable, but none back.
		binds(fun("f", y, z), variable(3), variable(3), a), binds(fun("f", y, z, variable(3)), fun("f", z, variable(3)), variable(3)), binds(twice(y), twice(z), twice(variable(3)), variable(4)),
		{bind(3, a), bind(2, variable(3)), bind(1, fun("f", z, z)), bind(0, fun("f", y, z))},
		// Other things with the numbers of bound variables.
		{bind(5, number(5)), bind(6, fun("_6")), bind(7, fun("f", number(7), number(5), fun("_7")))},
	}
	for i, t := range rightOnes() {
		l = append(l, []api.Bind{bind(api.MaxVar/2+1+i, t)})
	}
	for _, n := range []int{2, 3, 10, 11, 99, 100, 1000} {
		for _, step := range []func(api.Term) api.Term{next, deeper, twice} {
			l = append(l, steps(n, step), shuffled(steps(n, step), int64(n)))
		}
	}
	return l
}
