package prog

import (
	"finial/api"
	"finial/fresh"
)

// deepest is how many others a goal may be inside of.
const deepest = 9

// counter counts the goals of a clause.
type counter struct {
	begun int
}

// begin counts a goal that is inside so many others, and reports whether there is room for it.
func (c *counter) begin(inside int) bool {
	c.begun++
	return c.begun <= api.MaxGoals && inside <= deepest
}

// maker makes the goals of a valid term, from the left, until it comes upon a fault.
type maker struct {
	counter
	fault api.Errno
}

// goals returns the goals of t, which are inside so many others; cut tells whether a Cut is permitted there.
func (m *maker) goals(t api.Term, inside int, cut bool) []api.Goal {
	switch {
	case m.fault != api.OK || is(t, "true", 0):
		return nil
	case t.Kind != api.Fun:
		m.fault = api.ErrType
		return nil
	case is(t, ",", 2):
		l := m.goals(t.Args[0], inside, cut)
		return append(l, m.goals(t.Args[1], inside, cut)...)
	case !m.begin(inside):
		m.fault = api.ErrLarge
		return nil
	}
	return []api.Goal{m.goal(t, inside, cut)}
}

// goal returns the goal that t is.
func (m *maker) goal(t api.Term, inside int, cut bool) api.Goal {
	switch {
	case is(t, "!", 0) && cut:
		return api.Goal{Kind: api.Cut}
	case is(t, ";", 2) && is(t.Args[0], "->", 2):
		return m.branch(t.Args[0], t.Args[1], inside, cut)
	case is(t, "->", 2):
		return m.branch(t, atom("fail"), inside, cut)
	case is(t, `\+`, 1):
		return api.Goal{Kind: api.Not, A: m.goals(t.Args[0], inside+1, false)}
	case isControl(predicateOf(t)):
		m.fault = api.ErrType
		return api.Goal{}
	case isBuiltin(predicateOf(t)):
		return api.Goal{Kind: api.Does, T: fresh.Copy(t)}
	}
	return api.Goal{Kind: api.Call, T: fresh.Copy(t)}
}

// branch returns the If of ->(a, b) and of what is to be done otherwise.
func (m *maker) branch(then, otherwise api.Term, inside int, cut bool) api.Goal {
	g := api.Goal{Kind: api.If}
	g.A = m.goals(then.Args[0], inside+1, false)
	g.B = m.goals(then.Args[1], inside+1, cut)
	g.C = m.goals(otherwise, inside+1, cut)
	return g
}
