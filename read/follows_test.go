package read_test

import (
	"math/rand"
	"strconv"
	"strings"
	"testing"

	"finial/api"
	"finial/lex"
	"finial/read"
	"finial/sample"
	"finial/term"
)

// P9.3, and that what is written in any way is read as what it was written for.

// operand is a term that can be written in several ways: one with an operator, a list, or another one.
type operand struct {
	t     api.Term
	parts []operand // those of the operator, of the list, or of the Fun
	how   string    // leaf, plain, infix, prefix, list, or tail (a list with a |)
	name  string    // the operator, the name of the Fun, or the text of a leaf
}

// anyRead returns any operand of that depth at most, whose variables are not numbered yet.
func anyRead(r *rand.Rand, depth int) operand {
	if depth == 1 || r.Intn(6) == 0 {
		return anyLeaf(r)
	}
	var parts []operand
	for range 1 + r.Intn(3) {
		parts = append(parts, anyRead(r, depth-1))
	}
	x := operand{parts: parts}
	switch r.Intn(5) {
	case 0, 1:
		x.how, x.parts = "infix", []operand{parts[0], anyRead(r, depth-1)}
		l := []string{":-", ";", "->", ",", "=", "\\=", "==", "\\==", "@<", "@>", "@=<", "@>=", "is", "=:=", "=\\=", "<", ">", "=<", ">=", "+", "-", "*", "//", "mod"}
		x.name = l[r.Intn(len(l))]
	case 2:
		x.how, x.parts = "prefix", parts[:1]
		x.name = []string{"-", "\\+"}[r.Intn(2)]
	case 3:
		x.how = []string{"list", "tail"}[r.Intn(2)]
		if len(parts) == 1 {
			x.how = "list"
		}
	default:
		x.how = "plain"
		x.name = []string{"f", "g", "-", "\\+", "=", "'a(b'", "','", "[]", "!", "foo_1"}[r.Intn(10)]
	}
	return x
}

func anyLeaf(r *rand.Rand) operand {
	l := []string{"X", "Y", "Z", "_", "_a", "0", "1", "12", "-1", "-7", "a", "b", "foo", "'a(b'", "'it''s'", "[]", "!", "'X'", "=..", "'.'"}
	return operand{how: "leaf", name: l[r.Intn(len(l))]}
}

func unquoted(s string) string {
	if strings.HasPrefix(s, "'") {
		return strings.ReplaceAll(s[1:len(s)-1], "''", "'")
	}
	return s
}

// term returns the term; names are those of the variables that occurred before.
func (x operand) term(names *[]string) api.Term {
	var l []api.Term
	for _, p := range x.parts {
		l = append(l, p.term(names))
	}
	switch x.how {
	case "list":
		return listed(l, sample.Fun("[]"))
	case "tail":
		return listed(l[:len(l)-1], l[len(l)-1])
	case "leaf":
		if n, err := strconv.Atoi(x.name); err == nil {
			return sample.Number(n)
		}
		if c := x.name[0]; c != '_' && (c < 'A' || c > 'Z') {
			return sample.Fun(unquoted(x.name))
		}
		for i, name := range *names {
			if name == x.name && name != "_" {
				return sample.Variable(i)
			}
		}
		*names = append(*names, x.name)
		return sample.Variable(len(*names) - 1)
	}
	return sample.Fun(unquoted(x.name), l...)
}

// text writes the operand where a priority up to most is permitted, with parentheses where they have to be, and
// sometimes where they need not be. Each token stands by itself but what has to stand together.
func (x operand) text(r *rand.Rand, most int) string {
	priority := 0
	switch x.how {
	case "infix":
		priority = infix[x.name][0]
	case "prefix":
		priority = prefix[x.name][0]
	}
	s := ""
	switch {
	case priority > most || r.Intn(8) == 0:
		return "( " + x.text(r, 1200) + " )"
	case x.how == "infix":
		p := infix[x.name]
		name := x.name
		if r.Intn(4) == 0 {
			name = "'" + name + "'"
		}
		return x.parts[0].text(r, p[1]) + " " + name + " " + x.parts[1].text(r, p[2])
	case x.how == "prefix":
		s = x.parts[0].text(r, priority)
		// What begins with the name of an infix operator would make this one a name.
		if _, is := infix[strings.Trim(strings.SplitN(s, " ", 2)[0], "'")]; is || strings.HasPrefix(s, "-") || strings.HasPrefix(s, "=(") || strings.HasPrefix(s, "','(") {
			s = "( " + s + " )"
		}
		return x.name + " " + s
	case x.how == "leaf":
		return x.name
	}
	var l []string
	for _, p := range x.parts {
		l = append(l, p.text(r, 999))
	}
	switch x.how {
	case "list":
		return "[ " + strings.Join(l, " , ") + " ]"
	case "tail":
		return "[ " + strings.Join(l[:len(l)-1], " , ") + " | " + l[len(l)-1] + " ]"
	}
	return x.name + "( " + strings.Join(l, " , ") + " )"
}

// What was written is read as what it was written for, however many parentheses it has.
func TestWhatWasWritten(t *testing.T) {
	r := rand.New(rand.NewSource(203))
	gaps := []string{" ", " ", " ", "\n", "\t ", " % c'\n"}
	for range 40000 {
		x := anyRead(r, 1+r.Intn(5))
		var names []string
		want := x.term(&names)
		s := x.text(r, 1200)
		pieces := strings.Split(s, " ")
		for i := range pieces[1:] {
			pieces[i] += gaps[r.Intn(len(gaps))]
		}
		s = strings.Join(pieces, "")
		c, at, e := read.One(s + " .")
		if e != api.OK || at != 0 || !sample.Alike(c.T, want) {
			t.Fatalf("%q: %s, error %d at %d, not %s", s, show(c.T), e, at, show(want))
		}
		if got := strings.Join(c.Names, " "); got != strings.Join(hidden(names), " ") {
			t.Fatalf("%q: names %q, not %q", s, got, names)
		}
	}
}

// hidden returns the names, empty where they are _.
func hidden(names []string) []string {
	var l []string
	for _, x := range names {
		if x == "_" {
			x = ""
		}
		l = append(l, x)
	}
	return l
}

// A term that was read is renumbered already, and valid; there are as many names as variables.
func TestRenumberedAlready(t *testing.T) {
	r := rand.New(rand.NewSource(204))
	check := func(s string) {
		l, _, e := read.Clauses(s)
		if e != api.OK {
			t.Fatalf("%q: error %d", s, e)
		}
		for _, c := range l {
			again, n, e := term.Number([]api.Term{c.T})
			if e != api.OK || n != len(c.Names) || !sample.Alike(again[0], c.T) {
				t.Errorf("%q: %s with %d names, renumbered %s with %d variables", s, show(c.T), len(c.Names), show(again[0]), n)
			}
		}
	}
	for range 20000 {
		s := ""
		for range r.Intn(4) {
			s += anyRead(r, 1+r.Intn(5)).text(r, 1200) + " .\n"
		}
		check(s)
	}
	check("f(Z, Y, X, Z, _, Y, _). g(X, Y). _. X = _ , Y = X .")
	check("A = B, B = [C, A|_], - D .")
}

// Parentheses around an operand change nothing, unless they follow a Name.
func TestParenthesesChangeNothing(t *testing.T) {
	r := rand.New(rand.NewSource(205))
	count := 0
	for range 20000 {
		s := anyRead(r, 1+r.Intn(4)).text(r, 1200) + " ."
		tokens, _, _ := lex.Tokens(s)
		x := tokens[r.Intn(len(tokens))]
		if x.Open || x.Kind == lex.Mark || x.Kind == lex.End {
			continue
		}
		if x.Kind == lex.Name && x.Text != "a" && x.Text != "b" && x.Text != "foo" && x.Text != "a(b" && x.Text != "!" && x.Text != "[]" {
			continue
		}
		n := len(x.Text)
		if s[x.At] == '\'' {
			n += 2
		}
		if x.At > 0 && s[x.At-1] == '-' {
			continue
		}
		with := s[:x.At] + " (" + s[x.At:x.At+n] + ")" + s[x.At+n:]
		c, _, e := read.One(s)
		d, _, f := read.One(with)
		if e != api.OK || f != api.OK || showClause(c) != showClause(d) {
			t.Errorf("%q: %s, %d, but %q: %s, %d", s, showClause(c), e, with, showClause(d), f)
		}
		count++
	}
	if count < 4000 {
		t.Errorf("only %d texts", count)
	}
	for a, b := range map[string]string{
		"X": "(X)", "-1": "(-1)", "- 1": "- (1)", "- - 1": "(-) - 1", "a - 1": "((a) - (1))", "f(a, X)": "f((a), (X))", "f(a = b)": "f((a = b))", "[a, b|c]": "[(a), (b)|(c)]", "a :- b, c": "a :- (b, c)", "a + b * c": "(a + (b * c))", "\\+ a": "(\\+ (a))", "f(x)": "(f(x))", "[]": "([])", "!": "(!)", "a ; b -> c": "(a ; (b -> c))",
	} {
		c, _, e := read.One(a + " .")
		d, _, f := read.One(b + " .")
		if e != api.OK || f != api.OK || showClause(c) != showClause(d) {
			t.Errorf("%q: %s, %d, but %q: %s, %d", a, showClause(c), e, b, showClause(d), f)
		}
	}
}
