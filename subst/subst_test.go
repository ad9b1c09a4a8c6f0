package subst_test

import (
	"math"
	"math/rand"
	"slices"
	"testing"

	"finial/api"
	"finial/sample"
	"finial/subst"
	"finial/term"
)

// P3.1: Right.

func TestRightBinds(t *testing.T) {
	for i, l := range rightBinds() {
		if !subst.Right(l) {
			t.Errorf("%d: not right: %d binds", i, len(l))
		}
	}
}

func TestWrongBinds(t *testing.T) {
	for i, l := range wrongBinds() {
		if subst.Right(l) {
			t.Errorf("%d: right: %d binds", i, len(l))
		}
	}
}

func TestRightVarBounds(t *testing.T) {
	for _, v := range []int{math.MinInt, -api.MaxVar, -1, 0, 1, 999998, 999999, 1000000, 1000001, math.MaxInt} {
		if want := v >= 0 && v < 1000000; subst.Right([]api.Bind{bind(v, fun("a"))}) != want {
			t.Errorf("Right of a bind of the variable %d: %v", v, !want)
		}
	}
}

func TestRightFollowsTheWords(t *testing.T) {
	r := rand.New(rand.NewSource(31))
	count := map[bool]int{}
	for range 20000 {
		l := anyBinds(r)
		want := rightByWords(l)
		if subst.Right(l) != want {
			t.Errorf("Right: %v: %v", !want, l)
		}
		count[want]++
	}
	if count[true] < 2000 || count[false] < 2000 {
		t.Errorf("too few of one kind: %v", count)
	}
}

// Each bind but the one that closes the ring is needed for a variable to lead to itself.
func TestRightOfBrokenRings(t *testing.T) {
	for n := 1; n <= 40; n++ {
		ring := steps(n, deeper)
		ring[n-1].T = fun("g", fun("a"), variable(0))
		if subst.Right(ring) {
			t.Errorf("right: a ring of %d variables", n)
		}
		for i := range ring {
			if !subst.Right(slices.Delete(slices.Clone(ring), i, i+1)) {
				t.Errorf("not right: a ring of %d variables without the bind %d", n, i)
			}
		}
	}
}

// No variable leads to another one in more steps than this, and none of the calls may run out of room for it.
func TestVeryLongChains(t *testing.T) {
	const n = 200000
	for _, step := range []func(api.Term) api.Term{next, deeper, twice} {
		l := steps(n, step)
		slices.Reverse(l[n/2:])
		if !subst.Right(l) {
			t.Error("not right: a long chain")
		}
		closed := append(l, bind(n, variable(0)))
		if _, e := subst.Apply(closed, fun("a")); e != api.ErrArg || subst.Right(closed) {
			t.Errorf("right, or Apply: %d: a long ring", e)
		}
		if _, e := subst.Flat(closed); e != api.ErrArg {
			t.Errorf("Flat of a long ring: %d", e)
		}
	}
	l := append(steps(n, next), bind(n, fun("f", number(7), variable(n+5))))
	got, e := subst.Apply(l, fun("g", variable(0), variable(n/2), variable(n+1)))
	if want := fun("g", l[n].T, l[n].T, variable(n+1)); e != api.OK || !alike(got, want) {
		t.Errorf("Apply of a long chain: %s, %d", brief(got), e)
	}
	flat, e := subst.Flat(l)
	if e != api.OK || len(flat) != len(l) {
		t.Fatalf("Flat of a long chain: %d binds, %d", len(flat), e)
	}
	for i, b := range flat {
		if b.V != i || !alike(b.T, l[n].T) {
			t.Fatalf("Flat of a long chain: %d: the variable %d: %s", i, b.V, brief(b.T))
		}
	}
}

// P3.1: Find.

func TestFind(t *testing.T) {
	a, b, x := fun("a"), fun("b"), variable(1)
	l := []api.Bind{bind(3, a), bind(0, x), bind(1, fun("f", x)), bind(3, b), bind(0, x), bind(-2, b), bind(math.MaxInt, number(4)), bind(7, api.Term{}), bind(7, a), bind(-2, a)}
	for _, c := range []struct {
		v    int
		want api.Term
		is   bool
	}{
		{3, a, true}, {0, x, true}, {1, fun("f", x), true}, {-2, b, true}, {math.MaxInt, number(4), true}, {7, api.Term{}, true},
		{2, api.Term{}, false}, {4, api.Term{}, false}, {-1, api.Term{}, false}, {-3, api.Term{}, false}, {math.MinInt, api.Term{}, false}, {api.MaxVar, api.Term{}, false},
	} {
		if got, is := subst.Find(l, c.v); is != c.is || !alike(got, c.want) {
			t.Errorf("Find of %d: %s, %v", c.v, brief(got), is)
		}
	}
	for _, l := range [][]api.Bind{nil, {}} {
		if got, is := subst.Find(l, 0); is || !alike(got, api.Term{}) {
			t.Errorf("Find in no binds: %s, %v", brief(got), is)
		}
	}
}

func TestFindInAnyList(t *testing.T) {
	for _, l := range slices.Concat(rightBinds(), wrongBinds()) {
		for i, b := range l[:min(len(l), 30)] {
			if slices.IndexFunc(l, func(c api.Bind) bool { return c.V == b.V }) < i {
				continue
			}
			if got, is := subst.Find(l, b.V); !is || !alike(got, b.T) {
				t.Errorf("Find of %d: %s, %v, not %s", b.V, brief(got), is, brief(b.T))
			}
		}
	}
	for _, x := range odd() {
		if got, is := subst.Find([]api.Bind{bind(1, fun("a")), bind(2, x), bind(2, fun("a"))}, 2); !is || !alike(got, x) {
			t.Errorf("Find: %s, %v, not %s", brief(got), is, brief(x))
		}
	}
}

// P3.2: Apply.

func TestApply(t *testing.T) {
	a, x, y, z, w := fun("a"), variable(0), variable(1), variable(2), variable(3)
	far := variable(api.MaxVar - 1)
	for i, c := range []struct {
		l       []api.Bind
		t, want api.Term
	}{
		{binds(fun("f", y), a), fun("g", x, z), fun("g", fun("f", a), z)},
		{nil, fun("g", x, z), fun("g", x, z)}, {nil, number(3), number(3)}, {[]api.Bind{}, a, a},
		{binds(a), x, a}, {binds(a), y, y}, {binds(number(-4)), x, number(-4)}, {binds(y), x, y}, {binds(y), fun("f", x, y), fun("f", y, y)},
		{binds(y, z, w), fun("f", x, y, z, w), fun("f", w, w, w, w)}, {binds(y, z, a), fun("f", w, z, y, x), fun("f", w, a, a, a)},
		// In whatever order the binds stand.
		{[]api.Bind{bind(1, a), bind(0, fun("f", y))}, fun("g", x, z), fun("g", fun("f", a), z)},
		{[]api.Bind{bind(2, fun("h", w)), bind(0, fun("f", y, z)), bind(1, fun("g", z))}, fun("p", x, y), fun("p", fun("f", fun("g", fun("h", w)), fun("h", w)), fun("g", fun("h", w)))},
		{[]api.Bind{bind(0, far), bind(api.MaxVar-1, a)}, fun("f", x, far), fun("f", a, a)}, {[]api.Bind{bind(api.MaxVar-1, x)}, fun("f", x, far), fun("f", x, x)},
		// Only variables are replaced: not numbers and names that look like them.
		{binds(a, a, a), fun("f", number(0), fun("_0"), fun("0"), number(1), fun("_1", y)), fun("f", number(0), fun("_0"), fun("0"), number(1), fun("_1", a))},
		{binds(number(1), fun("f", number(2), number(0)), a), fun("f", x, y, z), fun("f", number(1), fun("f", number(2), number(0)), a)},
		{[]api.Bind{bind(5, number(6)), bind(6, a)}, fun("f", variable(5), number(5), number(6)), fun("f", number(6), number(5), number(6))},
		{[]api.Bind{bind(0, a)}, fun("f", fun("f", fun("f"))), fun("f", fun("f", fun("f")))},
		// A variable that occurs several times.
		{binds(fun("f", y, y), fun("g", z, z)), fun("h", x, y, x), fun("h", fun("f", fun("g", z, z), fun("g", z, z)), fun("g", z, z), fun("f", fun("g", z, z), fun("g", z, z)))},
		{binds(fun("f", y)), fun("f", times(8, x)...), fun("f", times(8, fun("f", y))...)},
		{steps(10, twice), x, balanced(10, variable(10))}, {steps(99, deeper), x, deep(99, variable(99))}, {steps(1000, next), x, variable(1000)},
	} {
		if got, e := subst.Apply(c.l, c.t); e != api.OK || !alike(got, c.want) {
			t.Errorf("%d: Apply to %s: %s, %d, not %s", i, brief(c.t), brief(got), e, brief(c.want))
		}
	}
}

func TestApplyFollowsTheWords(t *testing.T) {
	r := rand.New(rand.NewSource(32))
	count := map[bool]int{}
	for range 10000 {
		l := anyRightBinds(r)
		x := sample.AnyTerm(r.Intn, 15, 4)
		want := becomesByWords(l, x)
		checkRoom(t, l, x, want)
		count[term.Right(want)]++
	}
	if count[true] < 8000 || count[false] < 20 {
		t.Errorf("too few of one kind: %v", count)
	}
}

func TestApplyToWrongTerms(t *testing.T) {
	for _, x := range wrongOnes() {
		for _, l := range [][]api.Bind{nil, binds(fun("a")), {bind(5, fun("a"))}, steps(60, twice), binds(variable(0))} {
			if got, e := subst.Apply(l, x); e != api.ErrArg || !alike(got, api.Term{}) {
				t.Errorf("Apply to %s: %s, %d", brief(x), brief(got), e)
			}
		}
	}
}

// R2: what is not valid comes before what is too large, wherever it is.
func TestApplyOfWrongBinds(t *testing.T) {
	for i, l := range wrongBinds() {
		far := api.MaxVar / 2
		large := []api.Bind{bind(far, fun("f", variable(far+1), variable(far+1))), bind(far+1, sized(api.MaxNodes, fun("a")))}
		for _, c := range []struct {
			l []api.Bind
			t api.Term
		}{
			{l, fun("a")}, {l, variable(0)}, {l, variable(far)}, {slices.Concat(l, large), variable(far)}, {slices.Concat(large, l), variable(far)}, {l, api.Term{}},
		} {
			if got, e := subst.Apply(c.l, c.t); e != api.ErrArg || !alike(got, api.Term{}) {
				t.Errorf("%d: Apply to %s: %s, %d", i, brief(c.t), brief(got), e)
			}
		}
	}
}

// checkRoom asks for what t becomes, which is want, or nothing if that is too large.
func checkRoom(t *testing.T, l []api.Bind, x, want api.Term) {
	t.Helper()
	wanted := api.OK
	if !term.Right(want) {
		want, wanted = api.Term{}, api.ErrLarge
	}
	if got, e := subst.Apply(l, x); e != wanted || !alike(got, want) {
		t.Errorf("Apply to %s: %s, %d, not %d", brief(x), brief(got), e, wanted)
	}
}

func TestApplyNodes(t *testing.T) {
	a := fun("a")
	for _, leaf := range []api.Term{variable(5), number(9), a} {
		for n := 2990; n <= 3010; n++ {
			part := sized(n-2001, leaf)
			for _, l := range [][]api.Bind{binds(part), binds(variable(2), variable(0), part), binds(variable(1), part)} {
				checkRoom(t, l, fun("f", variable(0), sized(2000, a)), fun("f", part, sized(2000, a)))
				checkRoom(t, l, fun("f", sized(2000, a), variable(0)), fun("f", sized(2000, a), part))
				checkRoom(t, l, fun("f", sized(1000, a), variable(0), sized(1000, a)), fun("f", sized(1000, a), part, sized(1000, a)))
			}
		}
	}
	if _, e := subst.Apply(binds(sized(1499, a), sized(1500, a)), fun("f", variable(0), variable(1))); e != api.OK {
		t.Errorf("Apply, of 3000 terms: %d", e)
	}
	if _, e := subst.Apply(binds(sized(1500, a), sized(1500, a)), fun("f", variable(0), variable(1))); e != api.ErrLarge {
		t.Errorf("Apply, of 3001 terms: %d", e)
	}
	// What is as large as permitted stays so: variables become single terms.
	checkRoom(t, binds(a), sized(3000, variable(0)), sized(3000, a))
	checkRoom(t, binds(fun("g", a)), sized(3000, variable(0)), sized(3001, a))
}

func TestApplyDepth(t *testing.T) {
	for _, leaf := range []api.Term{variable(500), number(9), fun("a")} {
		for n := 95; n <= 105; n++ {
			for _, above := range []int{5, 6, 40, 94} {
				checkRoom(t, binds(deep(n-1-above, leaf)), deep(above, variable(0)), deep(n-1, leaf))
				checkRoom(t, binds(fun("g", leaf, deep(n-2-above, leaf))), deep(above, variable(0)), deep(above, fun("g", leaf, deep(n-2-above, leaf))))
			}
			checkRoom(t, append(steps(n-1, deeper), bind(n-1, leaf)), variable(0), deep(n-1, leaf))
			// A bound variable is no level of its own.
			checkRoom(t, append(steps(300, next), bind(300, deep(n-51, leaf))), deep(50, variable(0)), deep(n-1, leaf))
		}
	}
}

// Few binds can stand for more terms than there is room for anywhere.
func TestApplyOfEnormousTerms(t *testing.T) {
	for n := range 90 {
		l := append(steps(n, twice), bind(n, fun("a")))
		got, e := subst.Apply(l, variable(0))
		if n <= 10 {
			if e != api.OK || !alike(got, balanced(n, fun("a"))) {
				t.Errorf("Apply, %d times doubled: %s, %d", n, brief(got), e)
			}
			continue
		}
		if e != api.ErrLarge || !alike(got, api.Term{}) {
			t.Errorf("Apply, %d times doubled: %s, %d", n, brief(got), e)
		}
		if got, e := subst.Apply(l, fun("f", times(api.MaxArity, fun("f", times(api.MaxArity, variable(0))...))...)); e != api.ErrLarge || !alike(got, api.Term{}) {
			t.Errorf("Apply, %d times doubled, 64 times: %s, %d", n, brief(got), e)
		}
		// What the term does not lead to is of no account.
		if got, e := subst.Apply(l, fun("g", variable(n-1), variable(n+1))); e != api.OK || !alike(got, fun("g", twice(fun("a")), variable(n+1))) {
			t.Errorf("Apply, beside %d doublings: %s, %d", n, brief(got), e)
		}
	}
}

// P3.2: Flat.

func TestFlat(t *testing.T) {
	a, x, y, z, w := fun("a"), variable(0), variable(1), variable(2), variable(3)
	for i, c := range []struct{ l, want []api.Bind }{
		{nil, nil}, {[]api.Bind{}, nil}, {binds(a), binds(a)}, {binds(y), binds(y)}, {binds(number(4)), binds(number(4))},
		{binds(fun("f", y), a), binds(fun("f", a), a)},
		{binds(y, z, w), binds(w, w, w)}, {binds(z, z, a), binds(a, a, a)},
		{[]api.Bind{bind(1, a), bind(0, fun("f", y, z))}, []api.Bind{bind(1, a), bind(0, fun("f", a, z))}},
		{[]api.Bind{bind(9, x), bind(4, fun("f", variable(7), x)), bind(7, fun("g", variable(9)))}, []api.Bind{bind(9, x), bind(4, fun("f", fun("g", x), x)), bind(7, fun("g", x))}},
		{[]api.Bind{bind(api.MaxVar-1, x), bind(0, number(0))}, []api.Bind{bind(api.MaxVar-1, number(0)), bind(0, number(0))}},
		{binds(twice(y), twice(z), twice(w)), binds(balanced(3, w), balanced(2, w), balanced(1, w))},
		{binds(a, number(0), fun("f", number(1), fun("_0"))), binds(a, number(0), fun("f", number(1), fun("_0")))},
	} {
		if got, e := subst.Flat(c.l); e != api.OK || !alikeBinds(got, c.want) {
			t.Errorf("%d: Flat: %v, %d, not %v", i, got, e, c.want)
		}
	}
}

func TestFlatFollowsTheWords(t *testing.T) {
	r := rand.New(rand.NewSource(33))
	for range 2000 {
		l := anyRightBinds(r)
		want, wanted := []api.Bind{}, api.OK
		for _, b := range l {
			want = append(want, bind(b.V, becomesByWords(l, b.T)))
			if !term.Right(want[len(want)-1].T) {
				wanted = api.ErrLarge
			}
		}
		if wanted != api.OK {
			want = nil
		}
		if got, e := subst.Flat(l); e != wanted || !alikeBinds(got, want) {
			t.Errorf("Flat of %v: %v, %d, not %v, %d", l, got, e, want, wanted)
		}
	}
}

func TestFlatOfWrongBinds(t *testing.T) {
	large := []api.Bind{bind(500000, fun("f", variable(500001), variable(500001))), bind(500001, sized(api.MaxNodes, fun("a")))}
	for i, l := range wrongBinds() {
		for _, m := range [][]api.Bind{l, slices.Concat(l, large), slices.Concat(large, l)} {
			if got, e := subst.Flat(m); e != api.ErrArg || len(got) != 0 {
				t.Errorf("%d: Flat: %d binds, %d", i, len(got), e)
			}
		}
	}
}

// One term that becomes too large is enough, at whatever place it is; but each has its room for itself.
func TestFlatRoom(t *testing.T) {
	a := fun("a")
	for at := range 12 {
		for _, c := range []struct {
			part  api.Term
			large bool
		}{
			{sized(2999, a), false}, {sized(3000, a), true}, {deep(98, a), false}, {deep(99, a), true},
		} {
			l := []api.Bind{bind(20, c.part)}
			for i := range 12 {
				l = append(l, bind(i, sized(api.MaxNodes, number(i))))
			}
			l[1+at].T = fun("g", variable(20))
			got, e := subst.Flat(l)
			if c.large {
				if e != api.ErrLarge || len(got) != 0 {
					t.Errorf("Flat with %s at %d: %d binds, %d", brief(c.part), at, len(got), e)
				}
				continue
			}
			want := slices.Clone(l)
			want[1+at].T = fun("g", c.part)
			if e != api.OK || !alikeBinds(got, want) {
				t.Errorf("Flat with %s at %d: %d binds, %d", brief(c.part), at, len(got), e)
			}
		}
	}
	for n := range 90 {
		got, e := subst.Flat(steps(n, twice))
		if n <= 10 && (e != api.OK || len(got) != n) || n > 10 && (e != api.ErrLarge || len(got) != 0) {
			t.Errorf("Flat, %d times doubled: %d binds, %d", n, len(got), e)
		}
		slices.Reverse(got)
		for i, b := range got {
			if b.V != n-1-i || !alike(b.T, balanced(i+1, variable(n))) {
				t.Errorf("Flat, %d times doubled: the variable %d: %s", n, b.V, brief(b.T))
			}
		}
	}
}

// P3.3.

// someRightBinds are valid substitutions whose terms all become valid ones.
func someRightBinds() [][]api.Bind {
	var l [][]api.Bind
	r := rand.New(rand.NewSource(34))
	for range 1500 {
		l = append(l, anyRightBinds(r))
	}
	l = append(l, rightBinds()...)
	return slices.DeleteFunc(l, func(b []api.Bind) bool {
		_, e := subst.Flat(b)
		return e != api.OK
	})
}

func TestWhatATermBecomes(t *testing.T) {
	r := rand.New(rand.NewSource(35))
	for _, l := range someRightBinds() {
		for _, x := range []api.Term{sample.AnyTerm(r.Intn, 11, 3), fun("f", variable(0), variable(1), fun("g", variable(2))), fun("f", times(3, variable(7))...)} {
			once, e := subst.Apply(l, x)
			if e == api.ErrLarge {
				continue
			}
			for _, v := range term.Vars([]api.Term{once}) {
				if _, bound := subst.Find(l, v); bound {
					t.Errorf("%s becomes %s, with the bound variable %d", brief(x), brief(once), v)
				}
			}
			if again, f := subst.Apply(l, once); e != api.OK || f != api.OK || !alike(again, once) {
				t.Errorf("%s becomes %s, %d, and this %s, %d", brief(x), brief(once), e, brief(again), f)
			}
		}
	}
}

func TestFlatMakesTheSame(t *testing.T) {
	r := rand.New(rand.NewSource(36))
	found := 0
	for _, l := range someRightBinds() {
		flat, e := subst.Flat(l)
		if e != api.OK || !subst.Right(flat) || len(flat) != len(l) {
			t.Fatalf("Flat: %d binds of %d, %d, valid: %v", len(flat), len(l), e, subst.Right(flat))
		}
		if again, e := subst.Flat(flat); e != api.OK || !alikeBinds(again, flat) {
			t.Errorf("Flat again: %d binds of %d, %d", len(again), len(flat), e)
		}
		terms := []api.Term{variable(0), fun("f", variable(1), variable(0), variable(7)), sample.AnyTerm(r.Intn, 11, 4), balanced(8, variable(1))}
		for _, b := range l[:min(len(l), 20)] {
			terms = append(terms, variable(b.V), b.T)
		}
		for _, x := range terms {
			got, e := subst.Apply(flat, x)
			want, f := subst.Apply(l, x)
			if e != f || !alike(got, want) {
				t.Errorf("%s becomes %s, %d, and when flat %s, %d", brief(x), brief(want), f, brief(got), e)
			}
			if e == api.OK && !alike(got, x) {
				found++
			}
		}
		for i, b := range l[:min(len(l), 100)] {
			if got, e := subst.Apply(l, variable(b.V)); e != api.OK || !alike(got, flat[i].T) || flat[i].V != b.V {
				t.Errorf("the variable %d becomes %s, %d, and is %s when flat", b.V, brief(got), e, brief(flat[i].T))
			}
		}
	}
	if found < 3000 {
		t.Errorf("only %d terms became others", found)
	}
}
