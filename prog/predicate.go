package prog

import "finial/api"

// predicate is a name and a number of Args.
type predicate struct {
	name string
	args int
}

var builtins = []predicate{
	{"=", 2}, {`\=`, 2}, {"==", 2}, {`\==`, 2}, {"@<", 2}, {"@>", 2}, {"@=<", 2}, {"@>=", 2},
	{"is", 2}, {"=:=", 2}, {`=\=`, 2}, {"<", 2}, {">", 2}, {"=<", 2}, {">=", 2}, {"=..", 2},
	{"fail", 0}, {"nl", 0},
	{"var", 1}, {"nonvar", 1}, {"atom", 1}, {"integer", 1}, {"write", 1},
	{"functor", 3}, {"arg", 3},
}

var controls = []predicate{{"true", 0}, {"!", 0}, {",", 2}, {";", 2}, {"->", 2}, {`\+`, 1}, {":-", 2}}

func isBuiltin(p predicate) bool {
	for _, b := range builtins {
		if p == b {
			return true
		}
	}
	return false
}

func isControl(p predicate) bool {
	for _, c := range controls {
		if p == c {
			return true
		}
	}
	return p.name == "?"
}

// predicateOf returns the predicate of a term; that of a Var or a Num has no name.
func predicateOf(t api.Term) predicate { return predicate{t.Name, len(t.Args)} }

// is reports whether a valid term is a Fun of that name and that many Args.
func is(t api.Term, name string, args int) bool { return predicateOf(t) == predicate{name, args} }

// isPermitted reports whether t can be called, and the head of a clause.
func isPermitted(t api.Term) bool {
	p := predicateOf(t)
	return t.Kind == api.Fun && !isBuiltin(p) && !isControl(p)
}

func atom(name string) api.Term { return api.Term{Kind: api.Fun, Name: name} }

// predicates are those that a program has.
type predicates map[predicate]struct{}

// defined returns the predicates of any program.
func defined(p api.Prog) predicates {
	all := predicates{}
	for _, c := range p.Clauses {
		all[predicateOf(c.Head)] = struct{}{}
	}
	return all
}

// have reports whether each Call in any goals, those inside others included, is of one of the predicates.
func (all predicates) have(l []api.Goal) bool {
	for _, g := range l {
		if g.Kind == api.Call {
			if _, known := all[predicateOf(g.T)]; !known {
				return false
			}
		}
		if !all.have(g.A) || !all.have(g.B) || !all.have(g.C) {
			return false
		}
	}
	return true
}
