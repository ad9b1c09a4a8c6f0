package read_test

import (
	"strconv"
	"strings"
	"testing"

	"finial/api"
	"finial/read"
	"finial/sample"
)

// P9.1: what is too large, and which error is the first one.

// A text with too many bytes, and what is no token, is told before everything else.
func TestTokensComeFirst(t *testing.T) {
	checkLarge(t, strings.Repeat(" ", 8001), 0)
	checkLarge(t, ") "+strings.Repeat("a", 8000), 0)
	checkForm(t, "{", 0)
	checkForm(t, "a. {", 3)
	checkForm(t, ") a b {", 6)
	checkForm(t, "f(a,). 'b", 7)
	checkForm(t, "f(a,). 007", 7)
	checkForm(t, strings.Repeat("(", 1001)+" {", 1002)
	checkForm(t, "f(a, a, a, a, a, a, a, a, a). {", 30)
	checkForm(t, "a b. 9223372036854775808.", 5)
	checkForm(t, "-9223372036854775808.", 1)
	checkForm(t, "a :- "+strings.Repeat("b", 21)+".", 5)
	checkClauses(t, strings.Repeat(" ", 8000))
	checkClauses(t, strings.Repeat(" ", 7998)+"a.", "a")
	checkForm(t, strings.Repeat(" ", 7999)+"a", 8000)
}

// nested returns texts that open n operands, in many ways; the next one has to follow immediately.
func nested(n int) []string {
	var l []string
	for unit, k := range map[string]int{
		"(": 1, "(\n": 1, "( % c\n": 1, "f(": 1, "'a b'(": 1, "\\+(": 1, "-(": 1, "f(a,": 1, "f(-1,X,": 1, "[": 1, "[a|": 1, "[a,": 1, "[-1,[]|": 1,
		"(a,": 1, "(a:-b,": 1, "(X=": 1, "(1- 2* ": 1, "f(a+ ": 1, "(a;b,": 1,
		"\\+ (": 2, "- f(": 2, "'-' [": 2, "\\+[(": 3, "[- (f(": 4, "\\+ \\+ \\+(": 3, "f(- (\\+ [a|": 5,
	} {
		l = append(l, strings.Repeat("(", n%k)+strings.Repeat(unit, n/k))
	}
	return l
}

// Inside 999 operands one can be, if it is permitted there.
func TestDeepOperands(t *testing.T) {
	for _, s := range nested(999) {
		n := len(s)
		checkForm(t, s, n)
		checkForm(t, s+")", n)
		checkForm(t, s+"|", n)
		checkForm(t, s+" .", n+1)
		checkForm(t, s+"a", n+1)
		checkForm(t, s+"X Y", n+2)
		checkForm(t, s+"[]", n+2)
		checkForm(t, s+"\n-1", n+3)
		checkForm(t, s+"\n- ", n+3)
	}
}

// Inside 1000 none can be: where one would have to be is what is too large, whatever is there.
func TestTooDeepOperands(t *testing.T) {
	for _, s := range nested(999) {
		for _, first := range []string{"(", "f(", "[", "\n- "} {
			s := s + first
			for _, next := range []string{"a", "X", "1", "-1", "f(a)", "(", "[", "[]", "a.", "\\+ a", "'a b'", strings.Repeat("(", 50)} {
				// What follows has to be a token of its own.
				if first != "\n- " || next != "-1" {
					checkLarge(t, s+"\n"+next, len(s)+1)
				}
			}
			for _, next := range []string{"", ")", "]", ",", "|", ".", "- ", "- a", "=", ":-", "))"} {
				if first != "\n- " {
					checkLarge(t, s+"\n"+next, len(s)+1)
				}
			}
			checkLarge(t, s+"a b", len(s))
			checkLarge(t, "a. "+s+"a", len(s)+3)
			checkForm(t, "a b. "+s+"a", 2)
		}
		checkLarge(t, s+"(", len(s)+1)
		checkLarge(t, s+"f(   % c", len(s)+8)
		// The first operand inside is the one that would be too deep, whatever precedes it.
		checkForm(t, s+"a", len(s)+1)
		checkLarge(t, s+"(a,", len(s)+1)
		checkLarge(t, s+"[a|b]", len(s)+1)
		checkLarge(t, s+"f(a,b)", len(s)+2)
	}
	for _, n := range []int{1001, 1002, 2000, 7999} {
		checkLarge(t, strings.Repeat("(", n), 1000)
		checkLarge(t, strings.Repeat("(", n)+")", 1000)
	}
}

// What is inside an operand is too large only where an operand has to be, so that a prefix operator inside 999 operands
// may stand by itself.
func TestDeepPrefixOperators(t *testing.T) {
	s := strings.Repeat("\\+ ", 1000)
	checkLarge(t, s+".", 0)
	checkLarge(t, s+"a.", 3000)
	checkLarge(t, s+"(", 3000)
	checkForm(t, s+")", 3000)
	checkForm(t, s, 3000)
	checkForm(t, s[:2999], 2999)
	checkForm(t, s+"= )", 3002)
	checkLarge(t, s+"\\+ .", 3000)
	checkLarge(t, s+"\\+", 3000)
	checkLarge(t, "b. "+s+"\\+ .", 3003)
	checkClauses(t, strings.Repeat("(", 999)+"-"+strings.Repeat(")", 999)+".", "-")
	checkClauses(t, strings.Repeat("(", 999)+"-1"+strings.Repeat(")", 999)+".", "-1")
	checkLarge(t, strings.Repeat("(", 999)+"- 1"+strings.Repeat(")", 999)+".", 1001)
}

// What only follows others, or an infix operator, is inside none of them.
func TestManyOperandsSideBySide(t *testing.T) {
	checkClauses(t, strings.Repeat("(", 999)+"a"+strings.Repeat(")", 999)+".", "a")
	checkClauses(t, "f("+strings.Repeat("(", 998)+"X"+strings.Repeat(")", 998)+", "+strings.Repeat("(", 998)+"Y"+strings.Repeat(")", 998)+").", "f(_0, _1) {X Y}")
	checkLarge(t, strings.Repeat("a,", 3999)+"b.", 0)
	checkLarge(t, strings.Repeat("a-", 3999)+"b.", 0)
	checkLarge(t, "["+strings.Repeat("a,", 3998)+"b].", 0)
	checkLarge(t, "f("+strings.Repeat("a,", 3900)+"b).", 0)
	checkForm(t, strings.Repeat("a,", 3999)+"b", 7999)
	checkForm(t, strings.Repeat("(a)=(", 999)+"a)=b"+strings.Repeat(")", 998)+".", 999*5+2)
	checkLarge(t, strings.Repeat("(a)=(", 999)+"a"+strings.Repeat(")", 999)+".", 0)
	checkLarge(t, strings.Repeat("(a)=(", 999)+"(a)", 999*5+1)
	many := strings.Repeat("(a),", 60) + strings.Repeat("(", 999) + "b" + strings.Repeat(")", 999) + "."
	c, _, e := read.One(many)
	if e != api.OK || !sample.Alike(c.T, chain(60, "b")) {
		t.Errorf("%s: error %d", brief(many), e)
	}
	// Parentheses after an operator of low priority are as deep as those at the beginning.
	checkLarge(t, strings.Repeat("a;", 50)+strings.Repeat("(", 1000), 1100)
	checkForm(t, strings.Repeat("a;", 50)+strings.Repeat("(", 999), 1099)
	checkLarge(t, "\\+ a = "+strings.Repeat("(", 999), 7+999)
	checkForm(t, "\\+ a = "+strings.Repeat("(", 998), 7+998)
	checkForm(t, "\\+ a, "+strings.Repeat("(", 999), 6+999)
	checkLarge(t, "\\+ a, "+strings.Repeat("(", 1000), 6+1000)
}

// chain returns n a with commas between, and the last name after them.
func chain(n int, last string) api.Term {
	t := sample.Fun(last)
	for range n {
		t = sample.Fun(",", sample.Fun("a"), t)
	}
	return t
}

// A term that is not valid is told at the first token of its clause, once the clause is complete.
func TestTermsThatAreNotValid(t *testing.T) {
	for n := 97; n <= 103; n++ {
		deep := strings.Repeat("f(", n-1) + "X" + strings.Repeat(")", n-1)
		list := "[" + strings.Repeat("a,", n-2) + "a]"
		right := strings.Repeat("a,", n-1) + "b"
		left := strings.Repeat("a-", n-1) + "b"
		before := strings.Repeat("\\+ ", n-1) + "a"
		for _, s := range []string{deep, right, left, before} {
			checkValid(t, s, n <= 100)
		}
		checkValid(t, list, n <= 100)
		checkValid(t, "["+strings.Repeat("a,", n-2)+"a|b]", n <= 100)
		checkValid(t, strings.Repeat("(", n)+"X"+strings.Repeat(")", n), true)
	}
	for n := 5; n <= 12; n++ {
		checkValid(t, "f("+strings.Repeat("a,", n-1)+"X)", n <= 8)
		checkValid(t, "g(f("+strings.Repeat("a,", n-1)+"X))", n <= 8)
		checkValid(t, "[]("+strings.Repeat("_,", n-1)+"X)", n <= 8)
	}
	for n := 2990; n <= 3010; n++ {
		checkValid(t, wide(n), n <= 3000)
	}
}

// checkValid asks for a clause with the term s, at several places, which is valid or not.
func checkValid(t *testing.T, s string, valid bool) {
	t.Helper()
	for _, text := range []string{s + ".", s + " .%", "\n" + s + ". ", "a. b :- c. " + s + ".", "  % c\n'a b'. " + s + ". b."} {
		l, at, e := read.Clauses(text)
		switch first := strings.LastIndex(text, s); {
		case valid && (e != api.OK || at != 0):
			t.Errorf("%s: error %d at %d", brief(text), e, at)
		case !valid && (e != api.ErrLarge || at != first || len(l) > 0):
			t.Errorf("%s: %d clauses, error %d at %d, not 3 at %d", brief(text), len(l), e, at, first)
		}
	}
	if !valid {
		// The clause has to be complete, and a later one makes no difference.
		checkForm(t, s, len(s))
		checkForm(t, s+" b.", len(s)+1)
		checkForm(t, s+" ).", len(s)+1)
		checkLarge(t, s+". b c.", 0)
		checkForm(t, "b c. "+s+".", 2)
		checkLarge(t, s+". "+strings.Repeat("(", 1001), 0)
		checkLarge(t, "a. "+s+". b c.", 3)
	}
}

// wide returns the text of a term of n terms in all, of small depth.
func wide(n int) string {
	if n == 1 {
		return "a"
	}
	var l []string
	left := n - 1
	for i := 8; i > 0 && left > 0; i-- {
		part := (left + i - 1) / i
		l = append(l, wide(part))
		left -= part
	}
	return "f(" + strings.Join(l, ",") + ")"
}

// The first error from the left is told, whichever it is.
func TestFirstError(t *testing.T) {
	deep := strings.Repeat("(", 1000)
	large := "f(a, a, a, a, a, a, a, a, a)"
	checkForm(t, "a b. "+deep, 2)
	checkLarge(t, deep+". a b.", 1000)
	checkLarge(t, large+". "+deep, 0)
	checkLarge(t, deep+". "+large+".", 1000)
	checkForm(t, "("+large+" ]. "+deep, len(large)+2)
	checkForm(t, "a. b. ) "+deep, 6)
	checkLarge(t, "a. b. "+deep+" ) )", 1006+1)
	checkForm(t, "a = b = "+deep, 6)
	checkForm(t, "a = \\+ "+deep, 4)
	checkLarge(t, "a = (\\+ "+deep[:998]+"(", 8+998)
}

// There may be as many clauses, and as many variables, as there is room for.
func TestManyVariables(t *testing.T) {
	var s, names []string
	for i := range 1200 {
		names = append(names, "X"+strconv.Itoa(i))
	}
	for i := 0; i < len(names); i += 20 {
		s = append(s, "f("+"g("+strings.Join(names[i:i+7], ",")+"),g("+strings.Join(names[i+7:i+14], ",")+"),"+strings.Join(names[i+14:i+20], ",")+")")
	}
	c, at, e := read.One("[" + strings.Join(s, ",") + "].")
	if e != api.OK || at != 0 || strings.Join(c.Names, " ") != strings.Join(names, " ") {
		t.Errorf("error %d at %d, %d names", e, at, len(c.Names))
	}
	c, at, e = read.One(strings.ReplaceAll(wide(2900), "a", "_") + ".")
	if e != api.OK || at != 0 || strings.Join(c.Names, "") != "" || len(c.Names) < 2000 {
		t.Errorf("error %d at %d, %d names", e, at, len(c.Names))
	}
}
