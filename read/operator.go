package read

import "finial/lex"

// The priorities of what stands alone: as a clause or in parentheses, and among Args or the elements of a list.
const (
	whole = 1200
	among = 999
)

// operator is what a token is as an operator: nothing if all is 0.
type operator struct {
	infix       int // the priority between two terms
	left, right int // the greatest ones of these two terms
	prefix      int // the priority before one term, and the greatest one of that term
}

// operator returns what the token is as an operator.
func (r *reader) operator(x lex.Token) operator {
	r.once.Do(func() { r.operators = operators() })
	// The kind need not be asked: only Names have the texts of operators, and the Mark that is one, too.
	return r.operators[x.Text]
}

// operators returns all operators by their texts.
func operators() map[string]operator {
	test := operator{infix: 700, left: 699, right: 699}
	product := operator{infix: 400, left: 400, right: 399}
	return map[string]operator{
		":-": {infix: 1200, left: 1199, right: 1199},
		";":  {infix: 1100, left: 1099, right: 1100},
		"->": {infix: 1050, left: 1049, right: 1050},
		",":  {infix: 1000, left: 999, right: 1000},
		`\+`: {prefix: 900},
		"=":  test, `\=`: test, "==": test, `\==`: test,
		"@<": test, "@>": test, "@=<": test, "@>=": test,
		"is": test, "=:=": test, `=\=`: test,
		"<": test, ">": test, "=<": test, ">=": test,
		"+": {infix: 500, left: 500, right: 499},
		"-": {infix: 500, left: 500, right: 499, prefix: 200},
		"*": product, "//": product, "mod": product,
	}
}
