package read_test

import (
	"strings"
	"testing"
)

// P9.1: operators.

// Each pair of infix operators: what their priorities say, without parentheses.
func TestInfixPairs(t *testing.T) {
	for a, p := range infix {
		nameA := strings.ReplaceAll(a, ",", "','")
		checkTerm(t, "x "+a+" y", nameA+"(x, y)")
		checkTerm(t, "x '"+a+"' y", nameA+"(x, y)")
		checkTerm(t, "X "+a+" X", nameA+"(_0, _0)")
		checkTerm(t, "(x "+a+" y)", nameA+"(x, y)")
		if p[0] > 999 {
			checkForm(t, "f(x '"+a+"' y).", 4)
			checkForm(t, "[x '"+a+"' y].", 3)
		} else {
			checkTerm(t, "f(x "+a+" y)", "f("+nameA+"(x, y))")
			checkTerm(t, "[x "+a+" y|y "+a+" x]", ".("+nameA+"(x, y), "+nameA+"(y, x))")
		}
		for b, q := range infix {
			nameB := strings.ReplaceAll(b, ",", "','")
			s := "x " + a + " y " + b + " z"
			switch {
			case q[0] <= p[2]:
				checkTerm(t, s, nameA+"(x, "+nameB+"(y, z))")
			case p[0] <= q[1]:
				checkTerm(t, s, nameB+"("+nameA+"(x, y), z)")
			default:
				checkForm(t, s+" .", len("x y ")+len(a)+1)
			}
		}
	}
}

// The table of the chapter, by examples.
func TestInfixOperators(t *testing.T) {
	checkTerm(t, "a :- b, c ; d -> e", ":-(a, ;(','(b, c), ->(d, e)))")
	checkTerm(t, "a, b, c", "','(a, ','(b, c))")
	checkTerm(t, "a ; b ; c", ";(a, ;(b, c))")
	checkTerm(t, "a -> b -> c", "->(a, ->(b, c))")
	checkTerm(t, "a -> b ; c", ";(->(a, b), c)")
	checkTerm(t, "a, b -> c, d ; e, f", ";(->(','(a, b), ','(c, d)), ','(e, f))")
	checkTerm(t, "a - b - c", "-(-(a, b), c)")
	checkTerm(t, "a + b - c + d", "+(-(+(a, b), c), d)")
	checkTerm(t, "a * b // c mod d", "mod(//(*(a, b), c), d)")
	checkTerm(t, "a + b * c", "+(a, *(b, c))")
	checkTerm(t, "a * b + c", "+(*(a, b), c)")
	checkTerm(t, "a * b + c * d - e", "-(+(*(a, b), *(c, d)), e)")
	checkTerm(t, "a = b + c", "=(a, +(b, c))")
	checkTerm(t, "a + b = c * d", "=(+(a, b), *(c, d))")
	checkTerm(t, "X is 1 + 2 * 3", "is(_0, +(1, *(2, 3)))")
	checkTerm(t, "a :- X = 1, Y is X mod 2, X =:= Y", ":-(a, ','(=(_0, 1), ','(is(_1, mod(_0, 2)), =:=(_0, _1))))")
	checkForm(t, "a = b = c.", 6)
	checkForm(t, "a < b < c.", 6)
	checkForm(t, "a is b == c.", 7)
	checkForm(t, "a :- b :- c.", 7)
	checkForm(t, "a ; b :- c = d = e.", 15)
	// These are no operators.
	for _, s := range []string{"=..", "/", "^", "?-", "-->", ":", "@", "rem", "xor", "**", "<<", "dynamic", "|", "!", "[]"} {
		checkForm(t, "a "+s+" b.", 2)
	}
	checkForm(t, "a IS b.", 2)
	checkForm(t, "a Mod b.", 2)
	checkForm(t, "amodb", 5)
	checkTerm(t, "a mod(b)", "mod(a, b)")
	// What has no space between is one token, if it can be.
	checkTerm(t, "a=b", "=(a, b)")
	checkTerm(t, "a:-b,c", ":-(a, ','(b, c))")
	checkForm(t, "a=-b.", 1)
	checkTerm(t, "a= -b", "=(a, -(b))")
	checkForm(t, "a=\\+b.", 1)
}

func TestPrefixOperators(t *testing.T) {
	checkTerm(t, "- a", "-(a)")
	checkTerm(t, "-a", "-(a)")
	checkTerm(t, "- X", "-(_0)")
	checkTerm(t, "- 'A'", "-('A')")
	checkTerm(t, "- f(a)", "-(f(a))")
	checkTerm(t, "- [a]", "-(.(a, []))")
	checkTerm(t, "- []", "-([])")
	checkTerm(t, "- (a)", "-(a)")
	checkTerm(t, "- !", "-(!)")
	checkTerm(t, "\\+ a", "\\+(a)")
	checkTerm(t, "\\+a", "\\+(a)")
	checkTerm(t, "\\+X", "\\+(_0)")
	checkTerm(t, "\\+ 1", "\\+(1)")
	checkTerm(t, "\\+1", "\\+(1)")
	checkTerm(t, "\\+ [a|b]", "\\+(.(a, b))")
	checkTerm(t, "\\+ (a, b)", "\\+(','(a, b))")
	checkTerm(t, "\\+(a, b)", "\\+(a, b)")
	checkTerm(t, "\\+ \\+ a", "\\+(\\+(a))")
	checkTerm(t, "- \\+(a)", "-(\\+(a))")
	checkTerm(t, "'\\+' a", "\\+(a)")
	checkTerm(t, "'\\+'a", "\\+(a)")
	checkTerm(t, "'-' a", "-(a)")
	checkTerm(t, "+ - +", "-(+, +)")
	checkForm(t, "+ a.", 2)
	checkForm(t, "* a.", 2)
	checkForm(t, "?- a.", 3)
}

// The priority of a prefix operator with its term, and the greatest one of that term.
func TestPrefixPriorities(t *testing.T) {
	for op, p := range infix {
		name := strings.ReplaceAll(op, ",", "','")
		if p[0] > 200 {
			checkTerm(t, "- a "+op+" b", name+"(-(a), b)")
		}
		checkTerm(t, "a "+op+" - b", name+"(a, -(b))")
		switch {
		case p[0] <= 900:
			checkTerm(t, "\\+ a "+op+" b", "\\+("+name+"(a, b))")
			checkForm(t, "a "+op+" \\+ b.", len(op)+3)
		default:
			checkTerm(t, "\\+ a "+op+" b", name+"(\\+(a), b)")
			checkTerm(t, "a "+op+" \\+ b", name+"(a, \\+(b))")
		}
		checkTerm(t, "a "+op+" (\\+ b)", name+"(a, \\+(b))")
		checkTerm(t, "(\\+ a) "+op+" b", name+"(\\+(a), b)")
		checkTerm(t, "a "+op+" \\+(b)", name+"(a, \\+(b))")
		checkTerm(t, "\\+(a) "+op+" b", name+"(\\+(a), b)")
	}
	checkTerm(t, "\\+ a, b", "','(\\+(a), b)")
	checkTerm(t, "\\+ a = b, c", "','(\\+(=(a, b)), c)")
	checkTerm(t, "a, \\+ b, c", "','(a, ','(\\+(b), c))")
	checkTerm(t, "f(\\+ a, - b)", "f(\\+(a), -(b))")
	checkTerm(t, "- a - b", "-(-(a), b)")
	checkTerm(t, "a - - b", "-(a, -(b))")
	checkTerm(t, "a * - b * c", "*(*(a, -(b)), c)")
	checkForm(t, "a - \\+ b.", 4)
	checkForm(t, "- \\+ a.", 2)
	checkForm(t, "-\\+ a.", 4)
	checkForm(t, "a = \\+ ).", 7)
	checkForm(t, "a = '\\+' b.", 4)
	checkForm(t, "a :- b = \\+ c.", 9)
	// The operator is told, not what is wrong after it.
	checkForm(t, "a = \\+ (.", 4)
	checkForm(t, "a = \\+ b c d", 4)
	checkForm(t, "a = \\+ X", 4)
	checkForm(t, "a = \\+ [", 4)
	checkForm(t, "a = \\+ 1 )", 4)
}

// A prefix operator is a name like others before an End, before Marks that begin nothing, and before infix operators.
func TestPrefixOperatorsAsNames(t *testing.T) {
	for s, name := range map[string]string{"-": "-", "\\+": "\\+", "'-'": "-", "'\\+'": "\\+"} {
		checkTerm(t, s, name)
		checkTerm(t, "("+s+")", name)
		checkTerm(t, "f("+s+")", "f("+name+")")
		checkTerm(t, "f("+s+", "+s+")", "f("+name+", "+name+")")
		checkTerm(t, "["+s+"]", ".("+name+", [])")
		checkTerm(t, "["+s+"|"+s+"]", ".("+name+", "+name+")")
		checkTerm(t, s+" , a", "','("+name+", a)")
		checkTerm(t, "a = "+s, "=(a, "+name+")")
		checkTerm(t, "a * "+s+" = b", "=(*(a, "+name+"), b)")
		for op := range infix {
			quoted := strings.ReplaceAll(op, ",", "','")
			checkTerm(t, s+" "+op+" a", quoted+"("+name+", a)")
			checkTerm(t, s+" '"+op+"' a", quoted+"("+name+", a)")
			if op != "," {
				checkTerm(t, s+" "+op+"(a)", quoted+"("+name+", a)")
				checkForm(t, s+" "+op+" .", len(s)+len(op)+2)
			}
		}
		checkForm(t, s+" ).", len(s)+1)
		checkForm(t, s+" ].", len(s)+1)
		checkForm(t, s+" | a.", len(s)+1)
		checkForm(t, s, len(s))
	}
	checkTerm(t, "- - 1", "-(-, 1)")
	checkTerm(t, "- - a", "-(-, a)")
	checkTerm(t, "- - - a", "-(-, -(a))")
	checkTerm(t, "\\+ - a", "-(\\+, a)")
	checkTerm(t, "\\+ = a", "=(\\+, a)")
	checkTerm(t, "- = -", "=(-, -)")
	checkForm(t, "- = - = -.", 6)
	checkTerm(t, "\\+ '=..' ", "\\+(=..)")
	checkTerm(t, "- 'mod' a", "mod(-, a)")
	checkTerm(t, "- modx", "-(modx)")
	checkTerm(t, "a = \\+", "=(a, \\+)")
	checkTerm(t, "a = \\+, b", "','(=(a, \\+), b)")
}
