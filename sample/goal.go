package sample

import (
	"slices"
	"strconv"
	"strings"

	"finial/api"
)

// Call returns a Call of t.
func Call(t api.Term) api.Goal { return api.Goal{Kind: api.Call, T: t} }

// Does returns a Does of t.
func Does(t api.Term) api.Goal { return api.Goal{Kind: api.Does, T: t} }

// Cut returns a Cut.
func Cut() api.Goal { return api.Goal{Kind: api.Cut} }

// If returns an If of these goals.
func If(a, b, c []api.Goal) api.Goal { return api.Goal{Kind: api.If, A: a, B: b, C: c} }

// Not returns a Not of these goals.
func Not(l ...api.Goal) api.Goal { return api.Goal{Kind: api.Not, A: l} }

// Goals returns a list of these goals.
func Goals(l ...api.Goal) []api.Goal { return l }

// Clause returns the clause of this head, these goals, and so many variables.
func Clause(head api.Term, vars int, l ...api.Goal) api.Clause {
	return api.Clause{Head: head, Body: l, Vars: vars}
}

// Program returns the program of these clauses.
func Program(l ...api.Clause) api.Prog { return api.Prog{Clauses: l} }

// NestedGoals returns l inside n Nots.
func NestedGoals(n int, l ...api.Goal) []api.Goal {
	for range n {
		l = Goals(Not(l...))
	}
	return l
}

// AllGoals returns the goals, and all goals inside them, from the left, each before those inside it.
func AllGoals(l []api.Goal) []api.Goal {
	var all []api.Goal
	for _, g := range l {
		all = append(all, g)
		all = append(all, AllGoals(slices.Concat(g.A, g.B, g.C))...)
	}
	return all
}

// ApartGoals returns a copy of l that shares no memory with it.
func ApartGoals(l []api.Goal) []api.Goal {
	var m []api.Goal
	for _, g := range l {
		m = append(m, api.Goal{Kind: g.Kind, T: Apart(g.T), A: ApartGoals(g.A), B: ApartGoals(g.B), C: ApartGoals(g.C)})
	}
	return m
}

// ApartProgram returns a copy of p that shares no memory with it.
func ApartProgram(p api.Prog) api.Prog {
	var l []api.Clause
	for _, c := range p.Clauses {
		l = append(l, Clause(Apart(c.Head), c.Vars, ApartGoals(c.Body)...))
	}
	return Program(l...)
}

// OverwriteGoals writes over all goals, and all terms inside them, where they lie in memory.
func OverwriteGoals(l []api.Goal) {
	for i, g := range l {
		OverwriteGoals(g.A)
		OverwriteGoals(g.B)
		OverwriteGoals(g.C)
		Overwrite(g.T)
		l[i] = Does(Fun("overwritten"))
	}
}

// TextOfGoals is the whole text of goals, which tells them from all others.
func TextOfGoals(l []api.Goal) string {
	var b strings.Builder
	var write func(l []api.Goal)
	write = func(l []api.Goal) {
		b.WriteByte('[')
		for _, g := range l {
			b.WriteString(strconv.Itoa(g.Kind) + Text(g.T))
			write(g.A)
			write(g.B)
			write(g.C)
		}
		b.WriteByte(']')
	}
	write(l)
	return b.String()
}

// TextOfClause is the whole text of a clause, which tells it from all others.
func TextOfClause(c api.Clause) string {
	return Text(c.Head) + TextOfGoals(c.Body) + strconv.Itoa(c.Vars)
}

// TextOfProgram is the whole text of a program, which tells it from all others.
func TextOfProgram(p api.Prog) string {
	var l []string
	for _, c := range p.Clauses {
		l = append(l, TextOfClause(c))
	}
	return strings.Join(l, "\n")
}
