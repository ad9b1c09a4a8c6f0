package read_test

import (
	"math/rand"
	"regexp"
	"slices"
	"strconv"
	"strings"
	"testing"

	"finial/api"
	"finial/lex"
	"finial/read"
	"finial/sample"
)

var plain = regexp.MustCompile(`^([a-z][a-zA-Z0-9_]*|[-+*/\\^<>=~:.?@#&$]+|!|;|\[\])$`)

// show returns a term's text without operators and lists: f(_0, -1, 'A').
func show(t api.Term) string {
	switch t.Kind {
	case api.Var:
		return "_" + strconv.Itoa(t.N)
	case api.Num:
		return strconv.Itoa(t.N)
	}
	s := t.Name
	if !plain.MatchString(s) {
		s = "'" + strings.ReplaceAll(s, "'", "''") + "'"
	}
	if len(t.Args) == 0 {
		return s
	}
	var l []string
	for _, x := range t.Args {
		l = append(l, show(x))
	}
	return s + "(" + strings.Join(l, ", ") + ")"
}

// showClause returns the text of the clause's term and, if there are variables, of their names, in their order.
func showClause(c read.Clause) string {
	if len(c.Names) == 0 {
		return show(c.T)
	}
	return show(c.T) + " {" + strings.Join(c.Names, " ") + "}"
}

func showAll(l []read.Clause) []string {
	var all []string
	for _, c := range l {
		all = append(all, showClause(c))
	}
	return all
}

// checkClauses asks for the clauses of s.
func checkClauses(t *testing.T, s string, want ...string) {
	t.Helper()
	l, at, e := read.Clauses(s)
	if e != api.OK || at != 0 {
		t.Errorf("Clauses of %s: error %d at %d", brief(s), e, at)
	} else if got := showAll(l); !slices.Equal(got, want) {
		t.Errorf("Clauses of %s: %.300q, not %.300q", brief(s), got, want)
	}
	if len(want) == 1 {
		checkOne(t, s, want[0])
	}
}

// checkOne asks for the only clause of s.
func checkOne(t *testing.T, s, want string) {
	t.Helper()
	c, at, e := read.One(s)
	if e != api.OK || at != 0 {
		t.Errorf("One of %s: error %d at %d", brief(s), e, at)
	} else if showClause(c) != want {
		t.Errorf("One of %s: %.300s, not %.300s", brief(s), showClause(c), want)
	}
}

// checkTerm asks for the term of s, which is followed by an End, and whose variables have the names A, B, and so on.
func checkTerm(t *testing.T, s, want string) {
	t.Helper()
	c, at, e := read.One(s + " .")
	if e != api.OK || at != 0 {
		t.Errorf("One of %s: error %d at %d", brief(s), e, at)
	} else if show(c.T) != want {
		t.Errorf("One of %s: %.300s, not %.300s", brief(s), show(c.T), want)
	}
}

// checkError asks for the error of s, and for its place, both of Clauses and of One.
func checkError(t *testing.T, s string, e api.Errno, at int) {
	t.Helper()
	if l, place, f := read.Clauses(s); f != e || place != at || len(l) != 0 {
		t.Errorf("Clauses of %s: %d clauses, error %d at %d, not %d at %d", brief(s), len(l), f, place, e, at)
	}
	if c, place, f := read.One(s); f != e || place != at || !isZero(c) {
		t.Errorf("One of %s: %s, error %d at %d, not %d at %d", brief(s), showClause(c), f, place, e, at)
	}
}

// checkForm asks for a text with a token that is not permitted, at that byte.
func checkForm(t *testing.T, s string, at int) {
	t.Helper()
	checkError(t, s, api.ErrForm, at)
}

// checkLarge asks for a text with what is too large, at that byte.
func checkLarge(t *testing.T, s string, at int) {
	t.Helper()
	checkError(t, s, api.ErrLarge, at)
}

// checkNotOne asks for a text of any number of clauses but one.
func checkNotOne(t *testing.T, s string) {
	t.Helper()
	if c, at, e := read.One(s); e != api.ErrForm || at != len(s) || !isZero(c) {
		t.Errorf("One of %s: %s, error %d at %d, not 2 at %d", brief(s), showClause(c), e, at, len(s))
	}
}

// checkWords asks for what the words of the chapter say of s, and reports whether that is no error.
func checkWords(t *testing.T, s string) bool {
	t.Helper()
	want, at, e := byWords(s)
	if e != api.OK {
		checkError(t, s, e, at)
		return false
	}
	checkClauses(t, s, showAll(want)...)
	if len(want) != 1 {
		checkNotOne(t, s)
	}
	return true
}

func isZero(c read.Clause) bool { return sample.Alike(c.T, api.Term{}) && len(c.Names) == 0 }

// priorities of the infix operators: their own, the greatest one on the left and the greatest one on the right.
var infix = map[string][3]int{
	":-": {1200, 1199, 1199}, ";": {1100, 1099, 1100}, "->": {1050, 1049, 1050}, ",": {1000, 999, 1000},
	"=": {700, 699, 699}, "\\=": {700, 699, 699}, "==": {700, 699, 699}, "\\==": {700, 699, 699},
	"@<": {700, 699, 699}, "@>": {700, 699, 699}, "@=<": {700, 699, 699}, "@>=": {700, 699, 699},
	"is": {700, 699, 699}, "=:=": {700, 699, 699}, "=\\=": {700, 699, 699},
	"<": {700, 699, 699}, ">": {700, 699, 699}, "=<": {700, 699, 699}, ">=": {700, 699, 699},
	"+": {500, 500, 499}, "-": {500, 500, 499}, "*": {400, 400, 399}, "//": {400, 400, 399}, "mod": {400, 400, 399},
}

// priorities of the prefix operators: their own, and the greatest one on the right.
var prefix = map[string][2]int{"\\+": {900, 900}, "-": {200, 200}}

// level is something that is not complete yet, with what it has so far.
type level struct {
	kind string // clause, parentheses, args, list, tail, prefix or infix
	most int
	name string
	l    []api.Term
}

// stack reads the words of the chapter as a list of the levels that are open at a token, without calling itself.
type stack struct {
	tokens []lex.Token
	size   int
	open   []level
	wanted bool // whether the next token has to begin an operand
	t      api.Term
	prio   int // t and its priority were read last, unless an operand is wanted
	names  []string
}

func (s *stack) at() int {
	if len(s.tokens) == 0 {
		return s.size
	}
	return s.tokens[0].At
}

// byWords returns what the words of the chapter say of a text.
func byWords(text string) ([]read.Clause, int, api.Errno) {
	tokens, at, e := lex.Tokens(text)
	if e != api.OK {
		return nil, at, e
	}
	var l []read.Clause
	s := &stack{tokens: tokens, size: len(text)}
	for len(s.tokens) > 0 {
		first := s.at()
		if e := s.clause(); e != api.OK {
			return nil, s.at(), e
		}
		if !isRight(s.t) {
			return nil, first, api.ErrLarge
		}
		l = append(l, read.Clause{T: s.t, Names: s.names})
	}
	return l, 0, api.OK
}

func (s *stack) clause() api.Errno {
	s.names = nil
	s.begin(0, level{kind: "clause", most: 1200})
	for len(s.open) > 0 {
		step := s.after
		if s.wanted {
			step = s.operand
		}
		if e := step(); e != api.OK {
			return e
		}
	}
	return api.OK
}

// begin passes n tokens, and opens a level.
func (s *stack) begin(n int, x level) {
	s.tokens, s.wanted = s.tokens[n:], true
	s.open = append(s.open, x)
}

// end passes n tokens, and closes the level that was opened last: it became t.
func (s *stack) end(n int, t api.Term, prio int) {
	s.open = s.open[:len(s.open)-1]
	s.have(n, t, prio)
}

// have passes n tokens, which became t.
func (s *stack) have(n int, t api.Term, prio int) {
	s.tokens, s.wanted = s.tokens[n:], false
	s.t, s.prio = t, prio
}

// after decides what follows t.
func (s *stack) after() api.Errno {
	top := &s.open[len(s.open)-1]
	next := ""
	if len(s.tokens) > 0 {
		next = s.tokens[0].Text
		if o, is := infix[next]; is && o[0] <= top.most && s.prio <= o[1] {
			s.begin(1, level{kind: "infix", most: o[2], name: next, l: []api.Term{s.t}})
			return api.OK
		}
		if s.tokens[0].Kind == lex.Name {
			next = ""
		}
	}
	top.l = append(top.l, s.t)
	switch what := top.kind + next; {
	case top.kind == "infix":
		s.end(0, sample.Fun(top.name, top.l...), infix[top.name][0])
	case top.kind == "prefix":
		s.end(0, sample.Fun(top.name, top.l...), prefix[top.name][0])
	case what == "clause." || what == "parentheses)":
		s.end(1, s.t, 0)
	case what == "args)":
		s.end(1, sample.Fun(top.name, top.l...), 0)
	case what == "list]":
		s.end(1, listed(top.l, sample.Fun("[]")), 0)
	case what == "tail]":
		n := len(top.l) - 1
		s.end(1, listed(top.l[:n], top.l[n]), 0)
	case what == "args," || what == "list,":
		s.tokens, s.wanted = s.tokens[1:], true
	case what == "list|":
		s.tokens, s.wanted = s.tokens[1:], true
		top.kind = "tail"
	default:
		return api.ErrForm
	}
	return api.OK
}

func listed(l []api.Term, end api.Term) api.Term {
	for i := len(l) - 1; i >= 0; i-- {
		end = sample.Fun(".", l[i], end)
	}
	return end
}

// inside returns how many operands are open.
func (s *stack) inside() int {
	n := 0
	for _, x := range s.open {
		if x.kind != "infix" && x.kind != "clause" {
			n++
		}
	}
	return n
}

// operand reads an operand, or what of it precedes the first one inside it.
func (s *stack) operand() api.Errno {
	if s.inside() > 999 {
		return api.ErrLarge
	}
	if len(s.tokens) == 0 {
		return api.ErrForm
	}
	x := s.tokens[0]
	p, isPrefix := prefix[x.Text]
	switch {
	case x.Kind == lex.Number:
		s.have(1, sample.Number(x.N), 0)
	case x.Kind == lex.Upper:
		s.have(1, s.variable(x.Text), 0)
	case x.Kind == lex.Name && s.isNumber():
		s.have(2, sample.Number(0-s.tokens[1].N), 0)
	case x.Kind == lex.Name && x.Open:
		s.begin(2, level{kind: "args", most: 999, name: x.Text})
	case x.Kind == lex.Name && isPrefix && s.isBefore():
		if p[0] > s.open[len(s.open)-1].most {
			return api.ErrForm
		}
		s.begin(1, level{kind: "prefix", most: p[1], name: x.Text})
	case x.Kind == lex.Name:
		s.have(1, sample.Fun(x.Text), 0)
	case x.Kind == lex.Mark && x.Text == "(":
		s.begin(1, level{kind: "parentheses", most: 1200})
	case x.Kind == lex.Mark && x.Text == "[":
		s.begin(1, level{kind: "list", most: 999})
	default:
		return api.ErrForm
	}
	return api.OK
}

// isNumber reports whether the next tokens are a negative number.
func (s *stack) isNumber() bool {
	return len(s.tokens) > 1 && s.tokens[0].Text == "-" && s.tokens[1].Kind == lex.Number && s.tokens[1].At-s.tokens[0].At == 1
}

// isBefore reports whether the next token, a prefix operator, has a term.
func (s *stack) isBefore() bool {
	if len(s.tokens) < 2 {
		return false
	}
	y := s.tokens[1]
	_, is := infix[y.Text]
	return y.Kind != lex.End && !is && (y.Kind != lex.Mark || y.Text == "(" || y.Text == "[")
}

func (s *stack) variable(text string) api.Term {
	for i, name := range s.names {
		if name == text {
			return sample.Variable(i)
		}
	}
	s.names = append(s.names, strings.TrimSuffix(text, "_"))
	if text != "_" {
		s.names[len(s.names)-1] = text
	}
	return sample.Variable(len(s.names) - 1)
}

// isRight reports whether t is valid as far as a term that was read can be otherwise: its size, its depth and its Args.
func isRight(t api.Term) bool {
	n := 0
	var right func(x api.Term, deep int) bool
	right = func(x api.Term, deep int) bool {
		n++
		if n > 3000 || deep > 100 || len(x.Args) > 8 {
			return false
		}
		for _, a := range x.Args {
			if !right(a, deep+1) {
				return false
			}
		}
		return true
	}
	return right(t, 1)
}

// texts calls do with each text of n of the pieces, with the gap between them.
func texts(pieces []string, n int, gap string, do func(s string)) {
	l := make([]string, n)
	var each func(i int)
	each = func(i int) {
		if i == n {
			do(strings.Join(l, gap))
			return
		}
		for _, x := range pieces {
			l[i] = x
			each(i + 1)
		}
	}
	each(0)
}

// anyText returns a text of up to n pieces, with spaces between some of them.
func anyText(r *rand.Rand, n int) string {
	pieces := []string{
		"a", "b", "f(", "g(", "X", "Y", "_", "1", "7", "-", "-", "-1", "- ", "\\+", "\\+ ", "'-'", "'\\+'", "-(", "(", "(", ")", ")", ")", "[", "]", "]", "[]", "|", ",", ",", ", ", ". ", ". ",
		"=", "is", "mod", "+", "*", ":-", ";", "->", "','", "'='", "'|'", "!", "=..", "'a b'", " % c\n",
	}
	var b strings.Builder
	for range r.Intn(n + 1) {
		b.WriteString(pieces[r.Intn(len(pieces))])
		if r.Intn(3) > 0 {
			b.WriteString(" ")
		}
	}
	if r.Intn(2) == 0 {
		b.WriteString(" .")
	}
	return b.String()
}

// brief is a text's beginning and end, for a message.
func brief(s string) string {
	if len(s) > 120 {
		return strconv.Quote(s[:60]) + ".." + strconv.Quote(s[len(s)-60:])
	}
	return strconv.Quote(s)
}
