package read

import (
	"slices"
	"sync"

	"finial/api"
	"finial/lex"
)

// deepest is how many operands an operand may be inside of.
const deepest = 999

// reader reads the tokens of a text, from the left. Where one of its methods returns an error, the next token is the
// one that the error is about.
type reader struct {
	tokens    []lex.Token // those that are still to be read
	size      int         // of how many bytes the text consists
	names     []string    // of the variables of the clause that is read
	once      sync.Once
	operators map[string]operator // made once, by operator
}

// ahead returns the token that n others precede, of those still to be read; one of no kind, at the end of the text, if
// there is none.
func (r *reader) ahead(n int) lex.Token {
	if n < len(r.tokens) {
		return r.tokens[n]
	}
	return lex.Token{At: r.size}
}

func (r *reader) pass(n int) { r.tokens = r.tokens[n:] }

// passMark passes the Mark if it is the next token, and reports whether it was.
func (r *reader) passMark(text string) bool {
	x := r.ahead(0)
	is := x.Kind == lex.Mark && x.Text == text
	if is {
		r.pass(1)
	}
	return is
}

// need passes the Mark, which has to be the next token.
func (r *reader) need(text string) api.Errno {
	if !r.passMark(text) {
		return api.ErrForm
	}
	return api.OK
}

// clause reads a clause; its term need not be valid.
func (r *reader) clause() (Clause, api.Errno) {
	r.names = nil
	t, e := r.term(whole, 0)
	if e != api.OK {
		return Clause{}, e
	}
	if r.ahead(0).Kind != lex.End {
		return Clause{}, api.ErrForm
	}
	r.pass(1)
	return Clause{T: t, Names: r.names}, api.OK
}

// term reads a term up to the priority most, whose operands are inside depth others.
func (r *reader) term(most, depth int) (api.Term, api.Errno) {
	t, priority, e := r.operand(most, depth)
	for e == api.OK {
		x := r.ahead(0)
		o := r.operator(x)
		if o.infix == 0 || o.infix > most || priority > o.left {
			return t, api.OK
		}
		r.pass(1)
		var right api.Term
		right, e = r.term(o.right, depth)
		t, priority = fun(x.Text, t, right), o.infix
	}
	return api.Term{}, e
}

// terms reads terms that are separated by commas.
func (r *reader) terms(depth int) ([]api.Term, api.Errno) {
	var l []api.Term
	for {
		t, e := r.term(among, depth)
		if e != api.OK {
			return nil, e
		}
		l = append(l, t)
		if !r.passMark(",") {
			return l, api.OK
		}
	}
}

// operand reads an operand that is inside depth others, and returns its priority, too.
func (r *reader) operand(most, depth int) (api.Term, int, api.Errno) {
	x, y := r.ahead(0), r.ahead(1)
	o := r.operator(x)
	switch {
	case depth > deepest:
		return api.Term{}, 0, api.ErrLarge
	case isNegative(x, y):
		r.pass(2)
		return num(-y.N), 0, api.OK
	case o.prefix == 0 || x.Open || !r.begins(y):
		t, e := r.simple(depth)
		return t, 0, e
	case o.prefix > most:
		// Told before the operator's term is read: what is not permitted in that stands further to the right.
		return api.Term{}, 0, api.ErrForm
	}
	r.pass(1)
	t, e := r.term(o.prefix, depth+1)
	return fun(x.Text, t), o.prefix, e
}

// isNegative reports whether x is an unquoted - and y the Number that follows it immediately.
func isNegative(x, y lex.Token) bool {
	// Behind a quoted - nothing begins at its second byte.
	return x.Text == "-" && y.Kind == lex.Number && y.At == x.At+1
}

// begins reports whether x, which follows a prefix operator, is where the operator's term begins.
func (r *reader) begins(x lex.Token) bool {
	switch x.Kind {
	case lex.Number, lex.Upper:
		return true
	case lex.Name:
		return r.operator(x).infix == 0
	case lex.Mark:
		return x.Text == "(" || x.Text == "["
	}
	return false
}

// simple reads an operand that is neither a negative number nor a prefix operator with its term.
func (r *reader) simple(depth int) (api.Term, api.Errno) {
	switch x := r.ahead(0); x.Kind {
	case lex.Number:
		r.pass(1)
		return num(x.N), api.OK
	case lex.Upper:
		r.pass(1)
		return r.variable(x.Text), api.OK
	case lex.Name:
		r.pass(1)
		if x.Open {
			return r.compound(x.Text, depth+1)
		}
		return fun(x.Text), api.OK
	}
	switch {
	case r.passMark("("):
		return r.parenthesised(depth + 1)
	case r.passMark("["):
		return r.list(depth + 1)
	}
	return api.Term{}, api.ErrForm
}

// variable returns the variable of the clause that has this text.
func (r *reader) variable(text string) api.Term {
	// A _ is never found again, as its name is empty.
	n := slices.Index(r.names, text)
	if n < 0 {
		n = len(r.names)
		if text == "_" {
			text = ""
		}
		r.names = append(r.names, text)
	}
	return api.Term{Kind: api.Var, N: n}
}

// compound reads a Fun of that name, from the ( of its Args on.
func (r *reader) compound(name string, depth int) (api.Term, api.Errno) {
	r.pass(1)
	l, e := r.terms(depth)
	if e == api.OK {
		e = r.need(")")
	}
	return fun(name, l...), e
}

// parenthesised reads what follows a ( that stands by itself.
func (r *reader) parenthesised(depth int) (api.Term, api.Errno) {
	t, e := r.term(whole, depth)
	if e == api.OK {
		e = r.need(")")
	}
	return t, e
}

// list reads what follows the [ of a list.
func (r *reader) list(depth int) (api.Term, api.Errno) {
	l, e := r.terms(depth)
	t := fun("[]")
	if e == api.OK && r.passMark("|") {
		t, e = r.term(among, depth)
	}
	if e == api.OK {
		e = r.need("]")
	}
	for _, x := range slices.Backward(l) {
		t = fun(".", x, t)
	}
	return t, e
}

func num(n int) api.Term { return api.Term{Kind: api.Num, N: n} }

func fun(name string, args ...api.Term) api.Term {
	return api.Term{Kind: api.Fun, Name: name, Args: args}
}
