package write

import (
	"strconv"
	"strings"

	"finial/api"
)

// printer is the text that was written so far. Everything is written to its end: if each level joined the texts of its
// parts, what lies deep would be written again at every level.
type printer struct {
	strings.Builder
}

// goals writes goals separated by commas.
func (p *printer) goals(l []api.Goal) {
	if len(l) == 0 {
		p.WriteString("true")
	}
	for i, g := range l {
		if i > 0 {
			p.WriteString(", ")
		}
		p.goal(g)
	}
}

func (p *printer) goal(g api.Goal) {
	switch g.Kind {
	case api.Call, api.Does:
		p.anyTerm(g.T)
	case api.Cut:
		p.WriteByte('!')
	case api.If:
		p.WriteByte('(')
		p.goals(g.A)
		p.WriteString(" -> ")
		p.goals(g.B)
		p.WriteString(" ; ")
		p.goals(g.C)
		p.WriteByte(')')
	case api.Not:
		p.WriteString(`\+ (`)
		p.goals(g.A)
		p.WriteByte(')')
	default:
		p.WriteString("fail")
	}
}

// anyTerm writes any term: a ? if it has no text.
func (p *printer) anyTerm(t api.Term) {
	s, e := Term(t)
	if e != api.OK {
		s = "?"
	}
	p.WriteString(s)
}

// term writes a valid term.
func (p *printer) term(t api.Term) {
	switch {
	case t.Kind == api.Var:
		p.WriteByte('_')
		p.WriteString(strconv.Itoa(t.N))
	case t.Kind == api.Num:
		p.WriteString(strconv.Itoa(t.N))
	case isPair(t):
		p.list(t)
	default:
		p.name(t.Name)
		p.args(t.Args)
	}
}

// list writes a list, from its first pair on.
func (p *printer) list(t api.Term) {
	p.WriteByte('[')
	p.term(t.Args[0])
	t = t.Args[1]
	for isPair(t) {
		p.WriteByte(',')
		p.term(t.Args[0])
		t = t.Args[1]
	}
	if !isEmpty(t) {
		p.WriteByte('|')
		p.term(t)
	}
	p.WriteByte(']')
}

// args writes the Args of a Fun behind its name, if it has some.
func (p *printer) args(l []api.Term) {
	if len(l) == 0 {
		return
	}
	for i, t := range l {
		if i == 0 {
			p.WriteByte('(')
		} else {
			p.WriteByte(',')
		}
		p.term(t)
	}
	p.WriteByte(')')
}

// name writes a name, in quotes if it is not one Name without them.
func (p *printer) name(s string) {
	if isBare(s) {
		p.WriteString(s)
		return
	}
	p.WriteByte('\'')
	for _, c := range s {
		if c == '\'' {
			p.WriteByte('\'')
		}
		p.WriteRune(c)
	}
	p.WriteByte('\'')
}

func isPair(t api.Term) bool { return t.Name == "." && len(t.Args) == 2 }

func isEmpty(t api.Term) bool { return t.Name == "[]" && len(t.Args) == 0 }

// isBare reports whether a name, which is not empty, needs no quotes.
func isBare(s string) bool {
	switch s {
	case "!", ";", "[]":
		return true
	}
	return isLower(rune(s[0])) && consistsOf(s, isWord) || consistsOf(s, isSign)
}

// consistsOf reports whether all characters of s are of this sort.
func consistsOf(s string, sort func(c rune) bool) bool {
	for _, c := range s {
		if !sort(c) {
			return false
		}
	}
	return true
}

// isSign reports whether c is a sign. The point is none here, as by itself it would be read as an End.
func isSign(c rune) bool { return strings.ContainsRune(`+-*/\^<>=~:?@#&$`, c) }

func isLower(c rune) bool { return c >= 'a' && c <= 'z' }

func isWord(c rune) bool {
	return isLower(c) || c >= 'A' && c <= 'Z' || c >= '0' && c <= '9' || c == '_'
}
