package write_test

import (
	"math"
	"math/rand"
	"strings"
	"testing"

	"finial/api"
	"finial/sample"
	"finial/write"
)

// P10.1: Term.

func TestExample(t *testing.T) {
	checkTerm(t, fun("f", list(fun("a"), variable(3)), fun("B")), "f([a,_3],'B')")
}

func TestNamesWithoutQuotes(t *testing.T) {
	l := []string{
		"a", "z", "m", "foo", "aA", "aZ", "a0", "a9", "a_", "a__", "fooBar_9", "zZ_09", "mod", "is", "true", "fail",
		"+", "-", "*", "/", "\\", "^", "<", ">", "=", "~", ":", "?", "@", "#", "&", "$", "+-*/\\^<>=~:?@#&$",
		":-", "->", "\\+", "=:=", "=\\=", "@=<", "//", "/*", "--", "?-", "==>", "!", ";", "[]",
		strings.Repeat("a", 20), "a" + strings.Repeat("Z", 19), strings.Repeat("=", 20),
	}
	for _, x := range l {
		checkTerm(t, fun(x), x)
		checkTerm(t, fun(x, variable(0)), x+"(_0)")
	}
}

func TestNamesWithQuotes(t *testing.T) {
	l := []string{
		"A", "Z", "Foo", "_", "_a", "_1", "0", "9", "12", "-1", "1a", "9_", " ", "  ", "a b", " a", "a ", "a-b", "a-", "-a", "+a+", "a+b",
		".", "..", "...", "=..", ".=", "=.=", "a.", ".a", "a.b", "-.", "!!", "!a", "a!", "!;", ";;", ";a", "a;", ";-", "-;", "-!", "[", "]", "][", "[][]", "[]a", "a[]", "-[]", "[ ]", "[[]]", "[]]", "[]!", "{", "}", "{}", "(", ")", "()", "f(a)", "|", ",", "||", ",,",
		"%", "% c", "\"", "`", "a`", "az{", "`a", "{a", "@a", "/a", "a/", ":a", "a:", "a@", "a[", "~a", "a~", "a,b", "a|b", "\\n", "a\\",
		strings.Repeat("A", 20), strings.Repeat("a", 19) + "-", strings.Repeat("=", 19) + "a", strings.Repeat("=", 19) + ".", strings.Repeat(" ", 20),
	}
	for _, x := range l {
		checkTerm(t, fun(x), "'"+x+"'")
		checkTerm(t, fun(x, number(1), number(2), number(3)), "'"+x+"'(1,2,3)")
	}
}

func TestQuotesAreDoubled(t *testing.T) {
	checkTerm(t, fun("'"), "''''")
	checkTerm(t, fun("''"), "''''''")
	checkTerm(t, fun("it's"), "'it''s'")
	checkTerm(t, fun("a'"), "'a'''")
	checkTerm(t, fun("'a"), "'''a'")
	checkTerm(t, fun("'a'"), "'''a'''")
	checkTerm(t, fun("a''b"), "'a''''b'")
	checkTerm(t, fun("+'"), "'+'''")
	checkTerm(t, fun("'", fun("'")), "''''('''')")
	checkTerm(t, fun(strings.Repeat("'", 20)), strings.Repeat("'", 42))
}

// All names of one byte and of two, and all of three that mix what is read as one Name with other things.
func TestAllShortNames(t *testing.T) {
	every := everyByte()
	for i, bytes := range []string{every, every, "azAZ09_-=.:'!;[](, %"} {
		count := 0
		texts(bytes, i+1, func(name string) {
			x := fun(name)
			if s, e := write.Term(x); e != api.OK || s != nameByWords(name) {
				t.Errorf("Term of the name %q: %s, error %d", name, s, e)
			}
			count++
		})
		if want := []int{95, 95 * 95, 20 * 20 * 20}[i]; count != want {
			t.Errorf("%d names of %d bytes, not %d", count, i+1, want)
		}
	}
}

func TestVariables(t *testing.T) {
	checkTerm(t, variable(0), "_0")
	checkTerm(t, variable(1), "_1")
	checkTerm(t, variable(10), "_10")
	checkTerm(t, variable(999999), "_999999")
	// Variables keep their numbers.
	checkTerm(t, fun("f", variable(7), variable(3), variable(7)), "f(_7,_3,_7)")
}

func TestNumbers(t *testing.T) {
	checkTerm(t, number(0), "0")
	checkTerm(t, number(7), "7")
	checkTerm(t, number(-1), "-1")
	checkTerm(t, number(10), "10")
	checkTerm(t, number(-10), "-10")
	checkTerm(t, number(1234567890), "1234567890")
	checkTerm(t, number(1000000), "1000000")
	checkTerm(t, number(-1000001), "-1000001")
	checkTerm(t, number(math.MaxInt), "9223372036854775807")
	checkTerm(t, number(-math.MaxInt), "-9223372036854775807")
	checkTerm(t, number(math.MinInt), "-9223372036854775808")
	checkTerm(t, fun("-", number(-1)), "-(-1)")
	checkTerm(t, fun("-", number(1), number(-2)), "-(1,-2)")
}

func TestArgs(t *testing.T) {
	a, b := fun("a"), fun("b")
	checkTerm(t, fun("f", a), "f(a)")
	checkTerm(t, fun("f", a, b), "f(a,b)")
	checkTerm(t, fun("f", sample.Times(8, a)...), "f(a,a,a,a,a,a,a,a)")
	checkTerm(t, fun("f", fun("g", a, fun("h", b)), b), "f(g(a,h(b)),b)")
	checkTerm(t, fun("f", sample.Variables(0, 8)...), "f(_0,_1,_2,_3,_4,_5,_6,_7)")
	checkTerm(t, sample.Deep(99, a), strings.Repeat("f(", 99)+"a"+strings.Repeat(")", 99))
	// Operators are printed as other names are, without spaces.
	checkTerm(t, fun("-", number(1)), "-(1)")
	checkTerm(t, fun("-", a), "-(a)")
	checkTerm(t, fun("+", number(1), fun("*", number(2), number(3))), "+(1,*(2,3))")
	checkTerm(t, fun("\\+", a), "\\+(a)")
	checkTerm(t, fun(":-", a, fun(",", b, fun("!"))), ":-(a,','(b,!))")
	checkTerm(t, fun(";", fun("->", a, b), a), ";(->(a,b),a)")
	checkTerm(t, fun("is", variable(0), fun("mod", number(1), number(2))), "is(_0,mod(1,2))")
	checkTerm(t, fun("f", fun("-"), fun("\\+"), fun(","), fun("=")), "f(-,\\+,',',=)")
	checkTerm(t, fun("[]", a), "[](a)")
	checkTerm(t, fun("!", a), "!(a)")
	checkTerm(t, fun("'", fun("A", fun("|"))), "''''('A'('|'))")
	checkTerm(t, fun("true"), "true")
}

func TestLists(t *testing.T) {
	a, b, c, empty := fun("a"), fun("b"), fun("c"), fun("[]")
	checkTerm(t, empty, "[]")
	checkTerm(t, list(a), "[a]")
	checkTerm(t, list(a, b), "[a,b]")
	checkTerm(t, list(a, b, c), "[a,b,c]")
	checkTerm(t, list(variable(1), number(-2), fun("f", a, b)), "[_1,-2,f(a,b)]")
	checkTerm(t, list(empty), "[[]]")
	checkTerm(t, list(empty, empty), "[[],[]]")
	checkTerm(t, list(list(a), list(list(b), c)), "[[a],[[b],c]]")
	checkTerm(t, list(fun("A"), fun("|"), fun(","), fun("]")), "['A','|',',',']']")
	checkTerm(t, list(fun("-"), number(-1)), "[-,-1]")
	checkTerm(t, fun("f", list(a, b), list(c)), "f([a,b],[c])")
	checkTerm(t, list(sample.Times(99, a)...), "[a"+strings.Repeat(",a", 98)+"]")
	// What is no list ends with a |.
	checkTerm(t, pair(a, variable(0)), "[a|_0]")
	checkTerm(t, pair(a, pair(b, variable(4))), "[a,b|_4]")
	checkTerm(t, pair(variable(0), variable(0)), "[_0|_0]")
	checkTerm(t, pair(number(1), number(0)), "[1|0]")
	checkTerm(t, pair(number(1), number(-2)), "[1|-2]")
	checkTerm(t, pair(a, b), "[a|b]")
	checkTerm(t, pair(a, pair(b, c)), "[a,b|c]")
	checkTerm(t, pair(empty, a), "[[]|a]")
	checkTerm(t, pair(pair(a, b), c), "[[a|b]|c]")
	checkTerm(t, pair(pair(a, b), pair(c, variable(0))), "[[a|b],c|_0]")
	checkTerm(t, pair(list(a), list(b)), "[[a],b]")
	checkTerm(t, pair(a, fun("|")), "[a|'|']")
	checkTerm(t, pair(a, fun("f", list(b))), "[a|f([b])]")
	checkTerm(t, pair(a, fun("[]", b)), "[a|[](b)]")
	checkTerm(t, pair(a, pair(b, fun("[]", empty))), "[a,b|[]([])]")
	checkTerm(t, pair(a, fun("[ ]")), "[a|'[ ]']")
}

// Only a Fun . of two Args is printed as a list.
func TestOtherPoints(t *testing.T) {
	a, b := fun("a"), fun("b")
	checkTerm(t, fun("."), "'.'")
	checkTerm(t, fun(".", a), "'.'(a)")
	checkTerm(t, fun(".", fun("[]")), "'.'([])")
	checkTerm(t, fun(".", a, b, fun("[]")), "'.'(a,b,[])")
	checkTerm(t, fun(".", sample.Times(8, a)...), "'.'(a,a,a,a,a,a,a,a)")
	checkTerm(t, fun("..", a, b), "'..'(a,b)")
	checkTerm(t, fun("'.'", a, b), "'''.'''(a,b)")
	checkTerm(t, fun("[|]", a, b), "'[|]'(a,b)")
	checkTerm(t, pair(a, fun(".")), "[a|'.']")
	checkTerm(t, pair(a, fun(".", b)), "[a|'.'(b)]")
	checkTerm(t, pair(a, fun(".", b, a, fun("[]"))), "[a|'.'(b,a,[])]")
	checkTerm(t, pair(a, fun("..", b, fun("[]"))), "[a|'..'(b,[])]")
	checkTerm(t, list(fun("."), fun(".", a)), "['.','.'(a)]")
	checkTerm(t, fun(".", fun(".", a, b)), "'.'([a|b])")
}

func TestManyTerms(t *testing.T) {
	for _, x := range sample.SmallOnes() {
		checkWords(t, x)
	}
	r := rand.New(rand.NewSource(301))
	for range 40000 {
		if x := anyTerm(r, 1+r.Intn(5)); len(termByWords(x)) <= 8000 {
			checkWords(t, x)
		}
	}
}

// All terms of two and three parts, of names that are easily mistaken.
func TestAllSmallTerms(t *testing.T) {
	leaves := []api.Term{variable(2), number(0), number(-3)}
	for _, x := range names() {
		leaves = append(leaves, fun(x))
	}
	for _, name := range names() {
		for _, x := range leaves {
			checkWords(t, fun(name, x))
			checkWords(t, pair(fun(name, x), fun("[]")))
			checkWords(t, pair(fun("[]"), fun(name, x)))
		}
	}
	for _, x := range leaves {
		for _, y := range leaves {
			checkWords(t, pair(x, y))
			checkWords(t, list(x, y))
			checkWords(t, fun("=", x, y))
		}
	}
}

func TestTermsThatAreNotValid(t *testing.T) {
	for _, x := range sample.WrongOnes() {
		checkError(t, x, api.ErrArg)
	}
	// Also in each place of a list.
	for _, x := range []api.Term{{}, variable(-1), fun(""), fun("a\n"), {Kind: api.Num, Name: "1"}, {Kind: api.Fun, Name: "a", N: 1}} {
		checkError(t, pair(x, fun("[]")), api.ErrArg)
		checkError(t, pair(fun("a"), x), api.ErrArg)
		checkError(t, list(fun("a"), x, fun("b")), api.ErrArg)
	}
	checkError(t, api.Term{Kind: api.Var, Name: ".", Args: sample.Times(2, fun("a"))}, api.ErrArg)
	checkError(t, api.Term{Kind: api.Num, Name: ".", Args: sample.Times(2, fun("a"))}, api.ErrArg)
	checkError(t, pair(fun("a"), api.Term{Kind: api.Num, Name: "[]"}), api.ErrArg)
	checkError(t, pair(fun("a"), api.Term{Kind: api.Fun, Name: "[]", N: 1}), api.ErrArg)
	checkError(t, list(sample.Times(100, fun("a"))...), api.ErrArg)
}

// The limits of what is valid, as far as there is room for the text.
func TestLimits(t *testing.T) {
	for _, x := range sample.RightOnes() {
		if s := termByWords(x); len(s) <= 8000 {
			checkTerm(t, x, s)
		} else {
			checkError(t, x, api.ErrLarge)
		}
	}
	checkWords(t, sample.Sized(3000, number(1)))
	checkError(t, sample.Sized(3001, number(1)), api.ErrArg)
	checkWords(t, sample.Deep(99, fun("'")))
	checkError(t, sample.Deep(100, fun("'")), api.ErrArg)
}

// A text has 8000 bytes at most, whatever they stand for.
func TestTextsOfAllSizes(t *testing.T) {
	parts := map[string]api.Term{
		"a": fun("a"), "_0": variable(0), "_999999": variable(999999), "-1": number(-1), "-9223372036854775808": number(math.MinInt),
		"'A'": fun("A"), "''''": fun("'"), strings.Repeat("'", 42): fun(strings.Repeat("'", 20)), "' '(a)": fun(" ", fun("a")),
		"[a]": list(fun("a")), "[a,b]": list(fun("a"), fun("b")), "[a|b]": pair(fun("a"), fun("b")), "[a,b|_7]": pair(fun("a"), pair(fun("b"), variable(7))),
		"[]": fun("[]"), "f(a,b,c)": fun("f", fun("a"), fun("b"), fun("c")), "'.'(a)": fun(".", fun("a")),
	}
	for text, x := range parts {
		for n := 7990; n <= 8010; n++ {
			if y := filled(x, text, n); n > 8000 {
				checkError(t, y, api.ErrLarge)
			} else {
				checkTerm(t, y, "f("+text+","+termByWords(y.Args[1])+")")
			}
		}
	}
	for n := range 8100 {
		x := long(n + 1)
		if s, e := write.Term(x); n < 8000 && (len(s) != n+1 || e != api.OK) || n >= 8000 && (s != "" || e != api.ErrLarge) {
			t.Errorf("%d bytes: %d, error %d", n+1, len(s), e)
		}
	}
	checkError(t, sample.Sized(3000, variable(1)), api.ErrLarge)
	checkError(t, sample.Sized(3000, fun(strings.Repeat("'", 20))), api.ErrLarge)
	checkError(t, fun("f", sample.Times(8, long(1000))...), api.ErrLarge)
}

// R2: the error that is named first.
func TestNotValidComesFirst(t *testing.T) {
	for _, x := range []api.Term{{}, variable(-1), variable(1000000), fun(""), fun(strings.Repeat("a", 21)), fun("\x7f"), fun("f", sample.Times(9, fun("a"))...), sample.Deep(100, fun("a"))} {
		checkError(t, fun("f", long(8000), x), api.ErrArg)
		checkError(t, fun("f", x, long(9000)), api.ErrArg)
		checkError(t, pair(long(9000), x), api.ErrArg)
	}
	checkError(t, sample.Sized(3001, fun(strings.Repeat("'", 20))), api.ErrArg)
	checkError(t, fun("f", long(8000), fun("a")), api.ErrLarge)
}
