package prog

import (
	"finial/api"
	"finial/read"
	"finial/term"
)

// maxVars is how many variables a clause may have.
const maxVars = 1000

// checker checks the parts of a clause.
type checker struct {
	counter
	vars int // how many variables the clause has
}

// goals reports whether these goals, inside so many others, are valid; cut tells whether a Cut is permitted there.
func (k *checker) goals(l []api.Goal, inside int, cut bool) bool {
	for _, g := range l {
		if !k.begin(inside) || !k.goal(g, inside, cut) {
			return false
		}
	}
	return true
}

func (k *checker) goal(g api.Goal, inside int, cut bool) bool {
	switch g.Kind {
	case api.Call:
		return isPermitted(g.T) && k.term(g.T) && isEmpty(g.A, g.B, g.C)
	case api.Does:
		return isBuiltin(predicateOf(g.T)) && k.term(g.T) && isEmpty(g.A, g.B, g.C)
	case api.Cut:
		return cut && isNoTerm(g.T) && isEmpty(g.A, g.B, g.C)
	case api.If:
		return isNoTerm(g.T) && k.goals(g.A, inside+1, false) && k.goals(g.B, inside+1, cut) && k.goals(g.C, inside+1, cut)
	case api.Not:
		return isNoTerm(g.T) && k.goals(g.A, inside+1, false) && isEmpty(g.B, g.C)
	}
	return false
}

// term reports whether t is valid, and has only variables of the clause.
func (k *checker) term(t api.Term) bool {
	if !term.Right(t) {
		return false
	}
	for _, v := range term.Vars([]api.Term{t}) {
		if v >= k.vars {
			return false
		}
	}
	return true
}

func isEmpty(all ...[]api.Goal) bool {
	for _, l := range all {
		if len(l) > 0 {
			return false
		}
	}
	return true
}

func isNoTerm(t api.Term) bool { return term.Same(t, api.Term{}) }

// clause returns the clause of a text's clause; what it returns need not be valid.
func clause(x read.Clause) (api.Clause, api.Errno) {
	head, body := x.T, atom("true")
	if is(x.T, ":-", 2) {
		head, body = x.T.Args[0], x.T.Args[1]
	}
	if !isPermitted(head) {
		return api.Clause{}, api.ErrType
	}
	l, e := Goals(body)
	return api.Clause{Head: head, Body: l, Vars: len(x.Names)}, e
}

// query returns the clause of a query of p.
func query(x read.Clause, p api.Prog) (api.Clause, api.Errno) {
	n := len(x.Names)
	l, e := Goals(x.T)
	switch {
	case e != api.OK:
		return api.Clause{}, e
	case n > api.MaxArity:
		return api.Clause{}, api.ErrLarge
	case !There(l, p):
		return api.Clause{}, api.ErrName
	}
	head := atom("?")
	for v := range n {
		head.Args = append(head.Args, api.Term{Kind: api.Var, N: v})
	}
	return api.Clause{Head: head, Body: l, Vars: n}, api.OK
}
