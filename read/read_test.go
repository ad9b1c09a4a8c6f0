package read_test

import (
	"math"
	"strconv"
	"strings"
	"testing"

	"finial/api"
	"finial/read"
	"finial/sample"
)

// P9.1: Clauses.

func TestExample(t *testing.T) {
	checkClauses(t, "a :- b, \\+ X = -1.", ":-(a, ','(b, \\+(=(_0, -1)))) {X}")
	l, at, e := read.Clauses("a :- b, \\+ X = -1.")
	want := sample.Fun(":-", sample.Fun("a"), sample.Fun(",", sample.Fun("b"), sample.Fun("\\+", sample.Fun("=", sample.Variable(0), sample.Number(-1)))))
	if e != api.OK || at != 0 || len(l) != 1 || !sample.Alike(l[0].T, want) || len(l[0].Names) != 1 || l[0].Names[0] != "X" {
		t.Errorf("%v, %d, %d", l, at, e)
	}
}

func TestSeveralClauses(t *testing.T) {
	checkClauses(t, "")
	checkClauses(t, " \n\t% a.\n")
	checkClauses(t, "%")
	checkClauses(t, "a.", "a")
	checkClauses(t, "a. b.", "a", "b")
	checkClauses(t, "a.%\nb.\n\nc .% d.", "a", "b", "c")
	checkClauses(t, "p(X, Y) :- q(Y).\nq(Y) :- p(X, Y).", ":-(p(_0, _1), q(_1)) {X Y}", ":-(q(_0), p(_1, _0)) {Y X}")
	checkClauses(t, "X. a. X. Y.", "_0 {X}", "a", "_0 {X}", "_0 {Y}")
	checkClauses(t, "_. 1. -1. [].", "_0 {}", "1", "-1", "[]")
	checkClauses(t, "app([], L, L).\napp([X|L], M, [X|N]) :- app(L, M, N).", "app([], _0, _0) {L}", ":-(app(.(_0, _1), _2, .(_0, _3)), app(_1, _2, _3)) {X L M N}")
	checkClauses(t, strings.Repeat("a. ", 2666), strings.Split(strings.Repeat("a", 2666), "")...)
}

func TestNumbers(t *testing.T) {
	checkTerm(t, "0", "0")
	checkTerm(t, "7", "7")
	checkTerm(t, "9223372036854775807", "9223372036854775807")
	checkTerm(t, "-1", "-1")
	checkTerm(t, "-0", "0")
	checkTerm(t, "-9223372036854775807", "-9223372036854775807")
	checkTerm(t, "f(-1)", "f(-1)")
	checkTerm(t, "[-1]", ".(-1, [])")
	checkTerm(t, "(-1)", "-1")
	// The - has to be unquoted, the Number to follow it immediately, and an operand to be wanted.
	checkTerm(t, "- 1", "-(1)")
	checkTerm(t, "-\n1", "-(1)")
	checkTerm(t, "-%\n1", "-(1)")
	checkTerm(t, "-(1)", "-(1)")
	checkTerm(t, "- (1)", "-(1)")
	checkTerm(t, "'-'1", "-(1)")
	checkTerm(t, "'-' 1", "-(1)")
	checkTerm(t, "1-1", "-(1, 1)")
	checkTerm(t, "1 -1", "-(1, 1)")
	checkTerm(t, "1 - 1", "-(1, 1)")
	checkTerm(t, "1- -1", "-(1, -1)")
	checkTerm(t, "1- - 1", "-(1, -(1))")
	checkTerm(t, "A-1", "-(_0, 1)")
	checkTerm(t, "f(a)-1", "-(f(a), 1)")
	checkTerm(t, "A = -1", "=(_0, -1)")
	checkTerm(t, "A is-1", "is(_0, -1)")
	checkTerm(t, "-1-1", "-(-1, 1)")
	checkTerm(t, "-1 * -1", "*(-1, -1)")
	checkTerm(t, "- -1", "-(-, 1)")
	checkTerm(t, "\\+ -1", "-(\\+, 1)")
	checkTerm(t, "\\+ (-1)", "\\+(-1)")
	checkTerm(t, "-a", "-(a)")
	checkForm(t, "--1 .", 2)
	checkForm(t, "+1.", 1)
	checkForm(t, "1 2.", 2)
	checkForm(t, "-1 2.", 3)
	checkForm(t, "1(a).", 1)
	checkForm(t, "-1(a).", 2)
	for _, n := range []int{1, 12, 99, 100, 4096, 1 << 31, 1<<63 - 1} {
		checkTerm(t, strconv.Itoa(n), strconv.Itoa(n))
		checkTerm(t, "-"+strconv.Itoa(n), "-"+strconv.Itoa(n))
		checkTerm(t, "- "+strconv.Itoa(n), "-("+strconv.Itoa(n)+")")
	}
	if c, _, e := read.One("-9223372036854775807 ."); e != api.OK || !sample.Alike(c.T, sample.Number(-math.MaxInt)) {
		t.Errorf("%v, %d", c, e)
	}
}

func TestVariables(t *testing.T) {
	checkOne(t, "X.", "_0 {X}")
	checkOne(t, "_.", "_0 {}")
	checkOne(t, "__.", "_0 {__}")
	checkOne(t, "_1.", "_0 {_1}")
	checkOne(t, "f(X, Y, X).", "f(_0, _1, _0) {X Y}")
	checkOne(t, "f(_, _, _).", "f(_0, _1, _2) {  }")
	checkOne(t, "f(_, X, _, X, _).", "f(_0, _1, _2, _1, _3) { X  }")
	checkOne(t, "f(_a, _A, _a, __, _, __).", "f(_0, _1, _0, _2, _3, _2) {_a _A __ }")
	checkOne(t, "X = Y, Y = Z, X = Z.", "','(=(_0, _1), ','(=(_1, _2), =(_0, _2))) {X Y Z}")
	checkOne(t, "[X, Y|X].", ".(_0, .(_1, _0)) {X Y}")
	checkOne(t, "[X|[Y, X]].", ".(_0, .(_1, .(_0, []))) {X Y}")
	checkOne(t, "f(X1, x1, X11, 'X1').", "f(_0, x1, _1, 'X1') {X1 X11}")
	checkOne(t, "- X.", "-(_0) {X}")
	checkOne(t, "f(ABCDEFGHIJKLMNOPQRST).", "f(_0) {ABCDEFGHIJKLMNOPQRST}")
	checkForm(t, "X(a).", 1)
	checkForm(t, "_(a).", 1)
	checkForm(t, "X Y.", 2)
	checkForm(t, "X a.", 2)
	// Variables of several clauses have nothing to do with each other.
	checkClauses(t, "f(X, _, Y). f(Y, Z, X). f(_).", "f(_0, _1, _2) {X  Y}", "f(_0, _1, _2) {Y Z X}", "f(_0) {}")
}

func TestNames(t *testing.T) {
	for s, want := range map[string]string{
		"a": "a", "[]": "[]", "!": "!", ";": ";", "'a b'": "'a b'", "'it''s'": "'it''s'", "'X'": "'X'", "''''": "''''", "'1'": "'1'", "'a'": "a", "'[]'": "[]", "=..": "=..", "#": "#", "'('": "'('", "','": "','", "'|'": "'|'", "'.'": ".", ".. ": "..",
	} {
		checkTerm(t, s, want)
		checkTerm(t, "("+s+" )", want)
		checkTerm(t, "f("+s+" )", "f("+want+")")
		checkTerm(t, "["+s+" ]", ".("+want+", [])")
		checkTerm(t, s[:len(strings.TrimSpace(s))]+"(b)", want+"(b)")
		if !strings.Contains("=..,[];", strings.Trim(s, "' ")) {
			checkForm(t, s+" a.", len(s)+1)
		}
	}
	// Operators are names like others where they are no operators.
	for op := range infix {
		name := op
		if op == "," {
			name = "','"
		}
		checkTerm(t, name, name)
		checkTerm(t, "f("+name+" )", "f("+name+")")
		checkTerm(t, "["+name+" , "+name+" |"+name+" ]", ".("+name+", .("+name+", "+name+"))")
		checkTerm(t, "("+name+" )", name)
		checkTerm(t, name+"(a)", name+"(a)")
		checkTerm(t, name+"(a, b, c)", name+"(a, b, c)")
		checkTerm(t, name+"(a, b)", name+"(a, b)")
		checkTerm(t, name+" "+name+" "+name, name+"("+name+", "+name+")")
		if op != "-" {
			checkForm(t, name+" a.", len(name)+1)
		}
	}
	checkForm(t, ".", 0)
	checkForm(t, "a. .", 3)
	checkForm(t, ",.", 0)
	checkForm(t, "|.", 0)
	checkForm(t, ").", 0)
	checkForm(t, "].", 0)
}

func TestArgs(t *testing.T) {
	checkTerm(t, "f(a)", "f(a)")
	checkTerm(t, "f(a,b)", "f(a, b)")
	checkTerm(t, "f( a , b )", "f(a, b)")
	checkTerm(t, "f(a, b, c, d, e, f, g, h)", "f(a, b, c, d, e, f, g, h)")
	checkTerm(t, "f(g(h(X)), g(X))", "f(g(h(_0)), g(_0))")
	checkTerm(t, "f(a = b, - c)", "f(=(a, b), -(c))")
	checkTerm(t, "f((a, b))", "f(','(a, b))")
	checkTerm(t, "f((a :- b), (c ; d))", "f(:-(a, b), ;(c, d))")
	checkTerm(t, "f(\\+ a)", "f(\\+(a))")
	checkTerm(t, "f(\\+ a = b, c)", "f(\\+(=(a, b)), c)")
	for s, want := range map[string]string{"'f g'": "'f g'", "[]": "[]", "!": "!", ";": ";", "+": "+", "-": "-", "\\+": "\\+", "'\\+'": "\\+", "=": "=", "','": "','", "'-'": "-", ":-": ":-", "mod": "mod", "..": "..", ".": "."} {
		checkTerm(t, s+"(a)", want+"(a)")
		checkTerm(t, s+"(a, B)", want+"(a, _0)")
		checkTerm(t, s+"((a, b))", want+"(','(a, b))")
	}
	checkForm(t, "f().", 2)
	checkForm(t, "f( ).", 3)
	checkForm(t, "f(,).", 2)
	checkForm(t, "f(a,).", 4)
	checkForm(t, "f(a b).", 4)
	checkForm(t, "f(a.", 3)
	checkForm(t, "f(a. ", 3)
	checkForm(t, "f(a", 3)
	checkForm(t, "f(a,", 4)
	checkForm(t, "f(", 2)
	checkForm(t, "f(a]).", 3)
	checkForm(t, "f(a|b).", 3)
	checkForm(t, "f(a :- b).", 4)
	checkForm(t, "f(a ; b).", 4)
	checkForm(t, "f(a -> b).", 4)
	// Only the Mark separates: a quoted comma is an operator whose priority is too great here.
	checkForm(t, "f(a ',' b).", 4)
	checkForm(t, "f(a, b ',' c).", 7)
	// A ( that does not follow immediately makes no Args.
	checkForm(t, "f (a).", 2)
	checkForm(t, "f(a)(b).", 4)
	checkForm(t, "'f' (a).", 4)
	checkTerm(t, "- (a)", "-(a)")
	checkTerm(t, "- (a, b)", "-(','(a, b))")
	checkTerm(t, "-(a, b)", "-(a, b)")
	checkTerm(t, "a = (b)", "=(a, b)")
	checkTerm(t, "a =(b)", "=(a, b)")
	checkTerm(t, "a -(b)", "-(a, b)")
	checkTerm(t, "a ','(b, c)", "','(a, ','(b, c))")
	checkForm(t, "a =(b, c)(d).", 9)
	checkForm(t, "f(a =(b, c)", 11)
	checkTerm(t, "a =(b, c)", "=(a, ','(b, c))")
}

func TestLists(t *testing.T) {
	checkTerm(t, "[a]", ".(a, [])")
	checkTerm(t, "[a, b]", ".(a, .(b, []))")
	checkTerm(t, "[a,b,c]", ".(a, .(b, .(c, [])))")
	checkTerm(t, "[a|b]", ".(a, b)")
	checkTerm(t, "[a, b|C]", ".(a, .(b, _0))")
	checkTerm(t, "[a|[b]]", ".(a, .(b, []))")
	checkTerm(t, "[a|[]]", ".(a, [])")
	checkTerm(t, "[[]]", ".([], [])")
	checkTerm(t, "[[a], [b|c]]", ".(.(a, []), .(.(b, c), []))")
	checkTerm(t, "[ [] ]", ".([], [])")
	checkForm(t, "[ [ ] ].", 4)
	checkTerm(t, "[a = b, - c|d + e]", ".(=(a, b), .(-(c), +(d, e)))")
	checkTerm(t, "[(a, b)|(c, d)]", ".(','(a, b), ','(c, d))")
	checkTerm(t, "[\\+ a|\\+ b]", ".(\\+(a), \\+(b))")
	checkTerm(t, "'.'(a, [])", ".(a, [])")
	checkTerm(t, "f([], [a])", "f([], .(a, []))")
	checkTerm(t, "[](a)", "[](a)")
	checkTerm(t, "[a]=[B]", "=(.(a, []), .(_0, []))")
	checkTerm(t, "['|'|'|']", ".('|', '|')")
	checkForm(t, "[ ].", 2)
	checkForm(t, "[", 1)
	checkForm(t, "[a", 2)
	checkForm(t, "[a.", 2)
	checkForm(t, "[a,].", 3)
	checkForm(t, "[,a].", 1)
	checkForm(t, "[a|].", 3)
	checkForm(t, "[|a].", 1)
	checkForm(t, "[a|b|c].", 4)
	checkForm(t, "[a|b, c].", 4)
	checkForm(t, "[a b].", 3)
	checkForm(t, "[a).", 2)
	checkForm(t, "[a|b).", 4)
	checkForm(t, "[a|b", 4)
	checkForm(t, "[a :- b].", 3)
	checkForm(t, "[a ; b].", 3)
	checkForm(t, "[a|b -> c].", 5)
	checkForm(t, "[a ',' b].", 3)
	checkForm(t, "[a '|' b].", 3)
	checkForm(t, "[a ']'.", 3)
	checkForm(t, "[a](b).", 3)
	checkForm(t, "[a][b].", 3)
	checkForm(t, "a[b].", 1)
	checkForm(t, "a|b.", 1)
	checkForm(t, "(a|b).", 2)
}

func TestParentheses(t *testing.T) {
	checkTerm(t, "(a)", "a")
	checkTerm(t, "((a))", "a")
	checkTerm(t, "( X )", "_0")
	checkTerm(t, "(a :- b)", ":-(a, b)")
	checkTerm(t, "(a, b)", "','(a, b)")
	checkTerm(t, "(a :- b) :- (c :- d)", ":-(:-(a, b), :-(c, d))")
	checkTerm(t, "(a = b) = c", "=(=(a, b), c)")
	checkTerm(t, "a = (b = c)", "=(a, =(b, c))")
	checkTerm(t, "a - (b - c)", "-(a, -(b, c))")
	checkTerm(t, "(a, b), c", "','(','(a, b), c)")
	checkTerm(t, "(-)", "-")
	checkTerm(t, "(-) - (-)", "-(-, -)")
	checkTerm(t, "(\\+ a) = b", "=(\\+(a), b)")
	checkTerm(t, "a = (\\+ b)", "=(a, \\+(b))")
	checkTerm(t, "(- 1)", "-(1)")
	checkTerm(t, "- (- 1)", "-(-(1))")
	checkTerm(t, "- (-1)", "-(-1)")
	checkForm(t, "().", 1)
	checkForm(t, "(a.", 2)
	checkForm(t, "(a", 2)
	checkForm(t, "(", 1)
	checkForm(t, "(a].", 2)
	checkForm(t, "a).", 1)
	checkForm(t, "(a)).", 3)
	checkForm(t, "(a) (b).", 4)
	checkForm(t, "(a)b.", 3)
	checkForm(t, "(a,).", 3)
	checkForm(t, "(,a).", 1)
	checkForm(t, "(f)(a).", 3)
	checkForm(t, "(a ')'.", 3)
	checkForm(t, "'('a).", 3)
}

// A clause is up to an End, and nothing else.
func TestEnds(t *testing.T) {
	checkForm(t, "a", 1)
	checkForm(t, "a ", 2)
	checkForm(t, "a % .", 5)
	checkForm(t, "a\n\n", 3)
	checkForm(t, "a. b", 4)
	checkForm(t, "a. b c.", 5)
	checkForm(t, "a.b.", 1)
	checkForm(t, "a :- .", 5)
	checkForm(t, "a = .", 4)
	checkForm(t, ":- a.", 3)
	checkForm(t, "a :- b :- c.", 7)
	checkForm(t, "a '.' ", 2)
	checkForm(t, "X = ", 4)
	checkForm(t, "a +", 3)
	checkForm(t, "a,", 2)
	checkForm(t, "\\+", 2)
	checkForm(t, "-", 1)
	checkForm(t, "f(-", 3)
	checkForm(t, "a. b. c. ) d.", 9)
	checkClauses(t, "a.\n", "a")
	checkClauses(t, "- .", "-")
	checkClauses(t, "\\+ .", "\\+")
}
