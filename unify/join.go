package unify

import "finial/api"

// parts are the parts of what a store makes of two terms, as far as one unification has to look at them.
// What a variable becomes is there once, at however many places the variable stands: with a few binds a term
// becomes one with more places than could ever be visited.
type parts struct {
	store *Store
	list  []part
	vars  map[int]int // which part a variable becomes that is the last one of its chain
	work  [][2]int    // which parts have to become equal
}

// part is a Num, a Fun, or a variable that the store does not bind.
type part struct {
	t    api.Term
	args []int // which parts the Args of t are, once they have been asked for
	same int   // a part that becomes equal to this one, the next on the way to the last one; for the last one, itself
}

// join returns binds of variables that s does not bind, which unify both terms unless with them a variable leads
// to itself; and false if nothing unifies the terms.
func join(s *Store, a, b api.Term) ([]api.Bind, bool) {
	p := parts{store: s, vars: map[int]int{}}
	p.work = append(p.work, [2]int{p.part(a), p.part(b)})
	// The first ones first: so terms that differ near their tops are told apart soon.
	for next := 0; next < len(p.work); next++ {
		if !p.unite(p.work[next]) {
			return nil, false
		}
	}
	return p.binds(), true
}

// unite makes two parts the same, and notes which other ones then have to be; it returns false if their tops differ.
func (p *parts) unite(pair [2]int) bool {
	x, y := p.last(pair[0]), p.last(pair[1])
	if x == y {
		return true
	}
	a, b := p.list[x].t, p.list[y].t
	switch {
	case a.Kind == api.Var && (b.Kind != api.Var || a.N > b.N):
		p.list[x].same = y
	case b.Kind == api.Var:
		p.list[y].same = x
	case a.Kind != b.Kind || a.Name != b.Name || a.N != b.N || len(a.Args) != len(b.Args):
		return false
	default:
		p.list[y].same = x
		others := p.args(y)
		for i, arg := range p.args(x) {
			p.work = append(p.work, [2]int{arg, others[i]})
		}
	}
	return true
}

// last returns the part that stands for all those that are the same as part i. It is a variable only if all of them are.
func (p *parts) last(i int) int {
	for p.list[i].same != i {
		// Each step shortens the way for the next time.
		p.list[i].same = p.list[p.list[i].same].same
		i = p.list[i].same
	}
	return i
}

// part returns which part t is.
func (p *parts) part(t api.Term) int {
	if t.Kind != api.Var {
		return p.add(t)
	}
	v, end := p.end(t)
	i, is := p.vars[v]
	if !is {
		i = p.add(end)
		p.vars[v] = i
	}
	return i
}

func (p *parts) add(t api.Term) int {
	i := len(p.list)
	p.list = append(p.list, part{t: t, same: i})
	return i
}

// end returns the last variable of the chain that begins with the variable t, and what this one is bound to, or itself.
func (p *parts) end(t api.Term) (int, api.Term) {
	for {
		next, bound := p.store.find(t.N)
		if !bound {
			return t.N, t
		}
		if next.Kind != api.Var {
			return t.N, next
		}
		t = next
	}
}

// args returns which parts the Args of part i are.
func (p *parts) args(i int) []int {
	if p.list[i].args == nil {
		var args []int
		for _, t := range p.list[i].t.Args {
			args = append(args, p.part(t))
		}
		p.list[i].args = args
	}
	return p.list[i].args
}

// binds returns the binds of all variables that are the same as another part.
func (p *parts) binds() []api.Bind {
	var binds []api.Bind
	for i, x := range p.list {
		if last := p.last(i); x.t.Kind == api.Var && last != i {
			binds = append(binds, api.Bind{V: x.t.N, T: p.list[last].t})
		}
	}
	return binds
}
