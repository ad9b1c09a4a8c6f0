package lex_test

import (
	"math"
	"math/rand"
	"slices"
	"strconv"
	"strings"
	"testing"

	"finial/api"
	"finial/lex"
)

// P8.1: Tokens.

func TestExample(t *testing.T) {
	checkTokens(t, "f(X1).", open(name("f", 0)), mark("(", 1), upper("X1", 2), mark(")", 4), end(5))
	checkTokens(t, "a=.b", name("a", 0), name("=.", 1), name("b", 3))
}

func TestKinds(t *testing.T) {
	if lex.Name != 1 || lex.Upper != 2 || lex.Number != 3 || lex.Mark != 4 || lex.End != 5 {
		t.Error("the kinds have other numbers")
	}
	checkTokens(t, "a :- b, \\+ X = -1.", name("a", 0), name(":-", 2), name("b", 5), mark(",", 6), name("\\+", 8), upper("X", 11), name("=", 13), name("-", 15), number(1, 16), end(17))
	checkTokens(t, "p([X|'T t'],_,30):-\n\tX is 4 mod Y_2; !. % end", open(name("p", 0)), mark("(", 1), mark("[", 2), upper("X", 3), mark("|", 4), name("T t", 5), mark("]", 10), mark(",", 11), upper("_", 12), mark(",", 13), number(30, 14), mark(")", 16), name(":-", 17), upper("X", 21), name("is", 23), number(4, 26), name("mod", 28), upper("Y_2", 32), name(";", 35), name("!", 37), end(38))
}

func TestWords(t *testing.T) {
	for _, s := range []string{"a", "z", "aZ", "mod", "is", "fooBar", "a_", "a__b", "x9", "a09Z_", "lower_UPPER_0", "abcdefghijklmnopqrst", "uvwxyzABCDEFGHIJKLMN", "oOPQRSTUVWXYZ0123456", "n789_"} {
		checkTokens(t, s, name(s, 0))
		checkTokens(t, " "+s+"(", open(name(s, 1)), mark("(", 1+len(s)))
		if len(s) < 20 {
			checkTokens(t, strings.ToUpper(s[:1])+s[1:], upper(strings.ToUpper(s[:1])+s[1:], 0))
			checkTokens(t, "_"+s+" "+s, upper("_"+s, 0), name(s, len(s)+2))
		}
	}
	for _, s := range []string{"_", "__", "_0", "_a", "_A", "A", "Z", "X1", "Xa", "XA_", "A_b9Z", "_9_", "ABCDEFGHIJKLMNOPQRST", "UVWXYZabcdefghijklmn", "Nopqrstuvwxyz0123456", "X789"} {
		checkTokens(t, s, upper(s, 0))
		checkTokens(t, "\t"+s+"("+s, open(upper(s, 1)), mark("(", 1+len(s)), upper(s, 2+len(s)))
	}
	checkTokens(t, "aX X_a _a", name("aX", 0), upper("X_a", 3), upper("_a", 7))
}

func TestSigns(t *testing.T) {
	const signs = "+-*/\\^<>=~:.?@#&$"
	for i := range len(signs) {
		s := signs[i : i+1]
		checkTokens(t, s+"a", name(s, 0), name("a", 1))
		checkTokens(t, s+s, name(s+s, 0))
		checkTokens(t, "a"+s+"1", name("a", 0), name(s, 1), number(1, 2))
		checkTokens(t, s+"(", open(name(s, 0)), mark("(", 1))
		for k := range len(signs) {
			two := s + signs[k:k+1]
			checkTokens(t, two, name(two, 0))
			checkTokens(t, two+"X", name(two, 0), upper("X", 2))
			checkTokens(t, "["+two+"]", mark("[", 0), name(two, 1), mark("]", 3))
		}
		if s != "." {
			checkTokens(t, s, name(s, 0))
			checkTokens(t, s+" "+s, name(s, 0), name(s, 2))
			checkTokens(t, s+"%", name(s, 0))
		}
	}
	checkTokens(t, signs, name(signs, 0))
	checkTokens(t, ":-=..a", name(":-=..", 0), name("a", 5))
	checkTokens(t, "/* a */", name("/*", 0), name("a", 3), name("*/", 5))
	checkTokens(t, "- -1", name("-", 0), name("-", 2), number(1, 3))
}

// These stand alone, whatever is beside them.
func TestSingleNames(t *testing.T) {
	checkTokens(t, "!", name("!", 0))
	checkTokens(t, ";", name(";", 0))
	checkTokens(t, "[]", name("[]", 0))
	checkTokens(t, "!!;;", name("!", 0), name("!", 1), name(";", 2), name(";", 3))
	checkTokens(t, "!(;([](", open(name("!", 0)), mark("(", 1), open(name(";", 2)), mark("(", 3), open(name("[]", 4)), mark("(", 6))
	checkTokens(t, "=!=;=[]=", name("=", 0), name("!", 1), name("=", 2), name(";", 3), name("=", 4), name("[]", 5), name("=", 7))
	checkTokens(t, "a!b;c[]d", name("a", 0), name("!", 1), name("b", 2), name(";", 3), name("c", 4), name("[]", 5), name("d", 7))
	checkTokens(t, "[][]", name("[]", 0), name("[]", 2))
	checkTokens(t, "[[]]", mark("[", 0), name("[]", 1), mark("]", 3))
	checkTokens(t, "[ ]", mark("[", 0), mark("]", 2))
	checkTokens(t, "[%\n]", mark("[", 0), mark("]", 3))
	checkTokens(t, "[", mark("[", 0))
	checkTokens(t, "[]]", name("[]", 0), mark("]", 2))
	checkTokens(t, "][", mark("]", 0), mark("[", 1))
}

func TestQuotedNames(t *testing.T) {
	for s, text := range map[string]string{
		"'a'": "a", "'A'": "A", "'X1'": "X1", "'_'": "_", "' '": " ", "'0'": "0", "'007'": "007", "'.'": ".", "'. '": ". ", "'%'": "%", "'% x'": "% x", "'(),|[]'": "(),|[]", "'[]'": "[]", "'{}\"`~'": "{}\"`~", "'\\'": "\\", "'\\n'": "\\n", "'a b c'": "a b c", "'!'": "!", "'-'": "-",
		"''''": "'", "''''''": "''", "'it''s'": "it's", "'''a'": "'a", "'a'''": "a'", "'''a'''": "'a'", "'a''''b'": "a''b", "'a''b''c'": "a'b'c", "''' '": "' ",
		"'12345678901234567890'": "12345678901234567890", "'1234567890123456789'''": "1234567890123456789'", "'" + strings.Repeat("''", 20) + "'": strings.Repeat("'", 20), "'" + strings.Repeat(" ", 20) + "'": strings.Repeat(" ", 20),
	} {
		checkTokens(t, s, name(text, 0))
		checkTokens(t, "a"+s+"b", name("a", 0), name(text, 1), name("b", 1+len(s)))
		checkTokens(t, s+"(", open(name(text, 0)), mark("(", len(s)))
		checkTokens(t, s+" (", name(text, 0), mark("(", len(s)+1))
		checkTokens(t, s+" "+s, name(text, 0), name(text, len(s)+1))
		checkTokens(t, "% "+s+"\n"+s+"%"+s, name(text, 3+len(s)))
		checkFault(t, s[:len(s)-1], 0)
		checkFault(t, "a "+s[:len(s)-1], 2)
		checkFault(t, s+"'", 0)
		checkFault(t, s+" '", len(s)+1)
	}
	checkTokens(t, "'a' 'b'", name("a", 0), name("b", 4))
	checkTokens(t, "'a'.", name("a", 0), end(3))
	checkTokens(t, "'('", name("(", 0))
}

// The greedy reading of quotes: ” is always one ' of the Name, also where there would be a token otherwise.
func TestQuotes(t *testing.T) {
	checkFault(t, "'", 0)
	checkFault(t, "''", 0)
	checkFault(t, "'''", 0)
	checkFault(t, "'''''", 0)
	checkFault(t, "'a''", 0)
	checkFault(t, "'a'' b", 0)
	checkFault(t, "'a''\n'", 0)
	checkFault(t, "'a\n'", 0)
	checkFault(t, "'\n'", 0)
	checkFault(t, "'a", 0)
	checkFault(t, "'a%\n'", 0)
	checkFault(t, "f('a", 2)
	checkFault(t, "'a'b'", 4)
	checkFault(t, "'a' '", 4)
	checkFault(t, "'' a", 0)
	checkFault(t, "''a'", 0)
	checkFault(t, "'' 'a'", 0)
	checkFault(t, "a'' ", 1)
	checkFault(t, "''(", 0)
	checkTokens(t, "'''''''a'", name("'''a", 0))
	checkTokens(t, "'a%'%'", name("a%", 0))
}

func TestQuotedBytes(t *testing.T) {
	for b := range 256 {
		c := string([]byte{byte(b)})
		for _, s := range []string{"'" + c + "'", "'a" + c + "'", "'" + c + "b'", "'''" + c + "c'"} {
			switch {
			case b == '\'':
				checkWords(t, s)
			case b >= 32 && b <= 126:
				checkTokens(t, " "+s, name(strings.ReplaceAll(s[1:len(s)-1], "''", "'"), 1))
			default:
				checkFault(t, " "+s, 1)
			}
		}
	}
	checkFault(t, "a 'é'", 2)
}

func TestLengthOfNames(t *testing.T) {
	for n := 1; n <= 45; n++ {
		for _, kind := range []struct {
			kind        int
			text, s, by string
		}{
			{lex.Name, "a", "", ""}, {lex.Name, "z", "", "("}, {lex.Name, "=", "", "a"}, {lex.Name, ".", "", "a"}, {lex.Name, "-", "", " "}, {lex.Upper, "A", "", ""}, {lex.Upper, "_", "", "("}, {lex.Upper, "Z", "", "."},
			{lex.Name, "q", "'", ""}, {lex.Name, " ", "'", "("}, {lex.Name, "'", "'", ""}, {lex.Name, "%", "'", "."},
		} {
			text := strings.Repeat(kind.text, n)
			s := text
			if kind.s != "" {
				s = "'" + strings.ReplaceAll(text, "'", "''") + "'"
			}
			if n > 20 {
				checkFault(t, s+kind.by, 0)
				checkFault(t, "f X "+s+kind.by, 4)
				continue
			}
			l, _, e := lex.Tokens("f X " + s + kind.by)
			if e != api.OK || len(l) < 3 || l[2] != (lex.Token{Kind: kind.kind, Text: text, At: 4, Open: kind.by == "("}) {
				t.Errorf("%d bytes of %s: %v, %d", n, brief(s), l, e)
			}
		}
	}
	// No shorter token is tried instead of one that is too long.
	checkFault(t, strings.Repeat("a", 8000), 0)
	checkFault(t, "x "+strings.Repeat("A", 40)+" y", 2)
	checkFault(t, strings.Repeat("=", 21)+".", 0)
	checkFault(t, strings.Repeat(".", 21), 0)
	checkFault(t, strings.Repeat("=", 19)+".. ", 0)
	checkFault(t, strings.Repeat("=", 20)+". ", 0)
	checkTokens(t, strings.Repeat("=", 19)+". ", name(strings.Repeat("=", 19)+".", 0))
	checkTokens(t, strings.Repeat("a", 20)+". ", name(strings.Repeat("a", 20), 0), end(20))
	checkFault(t, "'"+strings.Repeat("a", 21)+"'", 0)
	checkFault(t, "'"+strings.Repeat("a", 7998)+"'", 0)
	checkFault(t, "'"+strings.Repeat("a", 19)+"''''", 0)
	checkFault(t, "'"+strings.Repeat("a", 20)+"'''", 0)
}

func TestNumbers(t *testing.T) {
	for _, n := range []int{0, 1, 2, 9, 10, 11, 19, 20, 90, 100, 101, 1000000, 1234567890, 9876543210, math.MaxInt32, math.MaxInt32 + 1, 999999999999999999, 1000000000000000000, math.MaxInt - 1, math.MaxInt} {
		s := strconv.Itoa(n)
		checkTokens(t, s, number(n, 0))
		checkTokens(t, "-"+s+".", name("-", 0), number(n, 1), end(1+len(s)))
		checkTokens(t, s+"("+s+")", number(n, 0), mark("(", len(s)), number(n, len(s)+1), mark(")", 2*len(s)+1))
		checkTokens(t, s+"a1"+" "+s, number(n, 0), name("a1", len(s)), number(n, len(s)+3))
		checkTokens(t, s+"X", number(n, 0), upper("X", len(s)))
		checkTokens(t, s+"_1", number(n, 0), upper("_1", len(s)))
		checkTokens(t, s+"'a'", number(n, 0), name("a", len(s)))
		checkTokens(t, s+"."+s, number(n, 0), name(".", len(s)), number(n, len(s)+1))
		checkTokens(t, s+"e5", number(n, 0), name("e5", len(s)))
		checkTokens(t, s+"\n"+s+"\t"+s, number(n, 0), number(n, len(s)+1), number(n, 2*len(s)+2))
	}
	for _, s := range []string{"00", "01", "007", "0123", "09223372036854775807", "000000000000000000000000", "9223372036854775808", "9223372036854775810", "9999999999999999999", "10000000000000000000", "18446744073709551615", "18446744073709551616", "18446744073709551617", "36893488147419103233", "92233720368547758070", strings.Repeat("1", 40), strings.Repeat("9", 8000), strings.Repeat("0", 8000)} {
		checkFault(t, s, 0)
		if len(s) < 8000 {
			checkFault(t, "f(\n"+s+").", 3)
			checkFault(t, "1 "+s+"a", 2)
			checkFault(t, "-"+s, 1)
		}
	}
	checkTokens(t, "0 0", number(0, 0), number(0, 2))
	checkTokens(t, "a0 0a X00 _00 a.0", name("a0", 0), number(0, 3), name("a", 4), upper("X00", 6), upper("_00", 10), name("a", 14), name(".", 15), number(0, 16))
	checkTokens(t, "0x1F", number(0, 0), name("x1F", 1))
	checkTokens(t, "1_000", number(1, 0), upper("_000", 1))
}

func TestMarks(t *testing.T) {
	for _, c := range []string{"(", ")", "[", "]", "|", ","} {
		checkTokens(t, c, mark(c, 0))
		checkTokens(t, " "+c+"\n", mark(c, 1))
		checkTokens(t, "1"+c+"2", number(1, 0), mark(c, 1), number(2, 2))
		checkTokens(t, c+"=", mark(c, 0), name("=", 1))
		checkTokens(t, c+".", mark(c, 0), end(1))
		checkTokens(t, c+"(", mark(c, 0), mark("(", 1))
		if c != "[" {
			checkTokens(t, c+c+c, mark(c, 0), mark(c, 1), mark(c, 2))
			checkTokens(t, c+"]", mark(c, 0), mark("]", 1))
		}
	}
	checkTokens(t, "()[|],||", mark("(", 0), mark(")", 1), mark("[", 2), mark("|", 3), mark("]", 4), mark(",", 5), mark("|", 6), mark("|", 7))
	for _, c := range []string{"{", "}", "\"", "`"} {
		checkFault(t, c, 0)
		checkFault(t, "a"+c, 1)
		checkFault(t, "=("+c, 2)
	}
}

func TestEnd(t *testing.T) {
	checkTokens(t, ".", end(0))
	for _, gap := range []string{" ", "\t", "\n", "%", "%.\n", " .", "\n."} {
		want := []lex.Token{end(1)}
		if strings.HasSuffix(gap, ".") {
			want = append(want, end(3))
		}
		checkTokens(t, " ."+gap, want...)
		checkTokens(t, "a."+gap, append([]lex.Token{name("a", 0)}, want...)...)
		checkTokens(t, "="+"."+gap, append([]lex.Token{name("=.", 0)}, want[1:]...)...)
		checkTokens(t, ".."+gap, append([]lex.Token{name("..", 0)}, want[1:]...)...)
		checkTokens(t, ".="+gap, append([]lex.Token{name(".=", 0)}, want[1:]...)...)
	}
	// A point before anything else is a Name.
	for _, c := range []string{"a", "X", "_", "0", "(", ")", "[", "]", "|", ",", "!", ";"} {
		l, _, e := lex.Tokens("." + c)
		if e != api.OK || len(l) != 2 || l[0] != (lex.Token{Kind: lex.Name, Text: ".", Open: c == "("}) || l[1].Kind == lex.End {
			t.Errorf("a point before %s: %v, %d", c, l, e)
		}
	}
	checkTokens(t, ".'a'", name(".", 0), name("a", 1))
	checkTokens(t, ".[]", name(".", 0), name("[]", 1))
	checkTokens(t, "a.b.", name("a", 0), name(".", 1), name("b", 2), end(3))
	checkTokens(t, "X.Y.\n", upper("X", 0), name(".", 1), upper("Y", 2), end(3))
	checkTokens(t, "!.", name("!", 0), end(1))
	checkTokens(t, "[].", name("[]", 0), end(2))
	checkTokens(t, "a . .", name("a", 0), end(2), end(4))
	checkTokens(t, ".%", end(0))
	checkTokens(t, "%.", []lex.Token{}...)
	checkTokens(t, "a+.", name("a", 0), name("+.", 1))
	checkTokens(t, "a+ .", name("a", 0), name("+", 1), end(3))
	checkTokens(t, "'.'.", name(".", 0), end(3))
	checkFault(t, ".\r", 1)
	checkFault(t, ".\xff", 1)
	checkFault(t, ".'", 1)
	checkFault(t, ".00", 1)
}

func TestGaps(t *testing.T) {
	for _, s := range []string{"", " ", "\t", "\n", " \t\n\n\t ", "%", "%%", "%\n", "% a.", "% it's \"\n", "%\n%", "% é \x00\xff\r{}\x7f", "%\xff\n", strings.Repeat(" ", 8000), strings.Repeat("%", 8000), strings.Repeat("\n", 8000), strings.Repeat("\t", 8000), "%" + strings.Repeat("\xc3", 7999)} {
		checkTokens(t, s)
		if len(s) < 8000 {
			checkTokens(t, s+"\na", name("a", len(s)+1))
			checkTokens(t, "a "+s, name("a", 0))
			checkTokens(t, "a"+s+"\nB", name("a", 0), upper("B", len(s)+2))
			checkTokens(t, "7."+s+"\n", number(7, 0), end(1))
			checkTokens(t, "="+s+"\n=", name("=", 0), name("=", len(s)+2))
		}
	}
	checkTokens(t, "a%b\nc", name("a", 0), name("c", 4))
	checkTokens(t, "a % b % c\n% d\n e%", name("a", 0), name("e", 15))
	checkTokens(t, "%a\nb%c\nd", name("b", 3), name("d", 7))
	checkTokens(t, "% a\t b", []lex.Token{}...)
	checkTokens(t, "%\ra\n b", name("b", 5))
	checkTokens(t, "f (a", name("f", 0), mark("(", 2), name("a", 3))
	checkTokens(t, "f%\n(a", name("f", 0), mark("(", 3), name("a", 4))
	checkTokens(t, "f\n(", name("f", 0), mark("(", 2))
	checkTokens(t, "X\t(", upper("X", 0), mark("(", 2))
	checkFault(t, "%\n\r", 2)
	checkFault(t, "a\rb", 1)
	checkFault(t, " \v", 1)
	checkFault(t, "\f", 0)
	checkFault(t, " \u00a0", 1)
	checkFault(t, "\u2028", 0)
}

// Only a Name and an Upper are Open, and only if the ( follows immediately.
func TestOpen(t *testing.T) {
	for _, s := range []string{"a", "X", "_", "+", "=.", ".", "!", ";", "[]", "'a b'", "''''", "','", "'('"} {
		for _, next := range []string{"(", "((", "()", "(a)"} {
			if l, _, e := lex.Tokens(s + next); e != api.OK || !l[0].Open {
				t.Errorf("not Open: %s: %v, %d", s+next, l, e)
			}
		}
		for _, next := range []string{"", " ", " (", "\n(", "\t(", "%(", "%\n(", ")", "[", "[(", "|", ",(", "'('", "%(\n("} {
			if strings.HasSuffix(s, "'") && strings.HasPrefix(next, "'") {
				continue
			}
			if l, _, e := lex.Tokens(s + next); e != api.OK || l[0].Open {
				t.Errorf("Open: %s: %v, %d", s+next, l, e)
			}
		}
	}
	for _, s := range []string{"1", "0", "(", ")", "[", "]", "|", ","} {
		if l, _, e := lex.Tokens(s + "("); e != api.OK || l[0].Open || l[1].Open {
			t.Errorf("Open: %s(: %v, %d", s, l, e)
		}
	}
}

// The byte of the first fault is told, counted in bytes from 0, also if others follow.
func TestPlaceOfFaults(t *testing.T) {
	for s, at := range map[string]int{
		"{": 0, "a {": 2, "a{": 1, "{{": 0, "f(X), \"s\" 00": 6, "00 \"": 0, "'a' ' {": 4, "%{\n{": 3, "%é\né": 4, "'a'é": 3, "a\x00": 1, "1 \x7f": 2, "X\x80": 1, "a\xff": 1, "\n\n\n}": 3, "a.{": 2, "9223372036854775808 {": 0, "{ 9223372036854775808": 0, "=}": 1, "a é": 2, "=é": 1, "1é": 1, "_é": 1, "é": 0, "aé(": 1, "\uFFFD": 0, "=\uFFFD": 1, "a\uFFFD": 1, "1\uFFFD": 1, "\uFF10": 0, "1\uFF10": 1, "ａ": 0, "Ａ": 0, "ß": 0,
	} {
		checkFault(t, s, at)
		checkFault(t, " "+s, at+1)
		checkFault(t, "a\n"+s, at+2)
		checkFault(t, "'it''s'. % é\n"+s, at+14)
		checkFault(t, s+" {", at)
		checkFault(t, s+"\n00", at)
	}
}

func TestLargeTexts(t *testing.T) {
	for n := 7990; n <= 8010; n++ {
		for _, s := range []string{strings.Repeat(" ", n), "%" + strings.Repeat("a", n-1), strings.Repeat(" ", n-1) + "a", strings.Repeat("{", n), strings.Repeat("'", n), strings.Repeat("a ", n/2) + strings.Repeat(".", n%2), strings.Repeat("9", n), strings.Repeat("\xff", n), strings.Repeat("é", n/2) + strings.Repeat("a", n%2), strings.Repeat(",", n), strings.Repeat("[]", n/2) + strings.Repeat("!", n%2)} {
			if n > 8000 {
				checkLarge(t, s)
			} else {
				checkWords(t, s)
			}
		}
	}
	l, at, e := lex.Tokens(strings.Repeat("(", 8000))
	if e != api.OK || at != 0 || len(l) != 8000 || l[7999] != mark("(", 7999) {
		t.Errorf("8000 tokens: %d, %d, %d", len(l), at, e)
	}
	checkTokens(t, strings.Repeat(" ", 7999)+"a", name("a", 7999))
	checkTokens(t, strings.Repeat("%", 7998)+"\n.", end(7999))
	checkFault(t, strings.Repeat(" ", 7999)+"'", 7999)
	checkFault(t, strings.Repeat("a\n", 3989)+"X"+strings.Repeat("b", 20)+".", 7978)
}

// All texts of one and two bytes, of three and four bytes of those that matter, and of more where quotes are read.
func TestAllShortTexts(t *testing.T) {
	var all []byte
	for b := range 256 {
		all = append(all, byte(b))
	}
	count := 0
	check := func(s string) {
		if checkWords(t, s) {
			count++
		}
	}
	texts(string(all), 0, check)
	texts(string(all), 1, check)
	texts(string(all), 2, check)
	texts("aZ_019.=-'!;()[]|,% \t\n{\xc3\xa9", 3, check)
	texts("aZ_09.='![](,%\n", 4, check)
	texts("'a(. \n", 6, check)
	texts("0.a% \n(", 5, check)
	if count < 50000 {
		t.Errorf("only %d texts without a fault", count)
	}
}

func TestTokensFollowTheWords(t *testing.T) {
	r := rand.New(rand.NewSource(101))
	count := map[bool]int{}
	for range 40000 {
		count[checkWords(t, anyText(r, 12, true))]++
		count[checkWords(t, anyText(r, 12, false))]++
		count[checkWords(t, anyBytes(r, 20))]++
		checkWords(t, anyBytes(r, 200))
	}
	if count[true] < 30000 || count[false] < 30000 {
		t.Errorf("too few of one kind: %v", count)
	}
}

// What is written token by token, in several ways each and with any gaps between, is read as these tokens.
func TestTokensThatWereWritten(t *testing.T) {
	r := rand.New(rand.NewSource(102))
	gaps := []string{" ", "\n", "\t", "  ", "% a '\n", "\n%\n", " % \xff{\n\t"}
	for range 20000 {
		var s strings.Builder
		var want []lex.Token
		for range r.Intn(15) {
			x, written := anyToken(r)
			x.At = s.Len()
			s.WriteString(written)
			want = append(want, x)
			if x.Open {
				want = append(want, mark("(", s.Len()))
				s.WriteString("(")
			}
			s.WriteString(gaps[r.Intn(len(gaps))])
		}
		checkTokens(t, s.String(), want...)
	}
}

// anyToken returns a token and its text.
func anyToken(r *rand.Rand) (lex.Token, string) {
	pick := func(from string, n int) string {
		l := make([]byte, n)
		for i := range l {
			l[i] = from[r.Intn(len(from))]
		}
		return string(l)
	}
	const small, large = "abcdefghijklmnopqrstuvwxyz", "ABCDEFGHIJKLMNOPQRSTUVWXYZ_"
	const word = small + large + "0123456789"
	x := lex.Token{Kind: lex.Name, Open: r.Intn(3) == 0}
	switch r.Intn(8) {
	case 0:
		x.Text = pick(small, 1) + pick(word, r.Intn(20))
	case 1:
		x.Kind, x.Text = lex.Upper, pick(large, 1)+pick(word, r.Intn(20))
	case 2:
		x.Text = pick("+-*/\\^<>=~:?@#&$", 1) + pick("+-*/\\^<>=~:.?@#&$", r.Intn(20))
	case 3:
		x.Text = []string{"!", ";", "[]"}[r.Intn(3)]
	case 4:
		l := make([]byte, 1+r.Intn(20))
		for i := range l {
			l[i] = byte(32 + r.Intn(95))
			if r.Intn(4) == 0 {
				l[i] = '\''
			}
		}
		x.Text = string(l)
		return x, "'" + strings.ReplaceAll(x.Text, "'", "''") + "'"
	case 5:
		n := r.Int() >> r.Intn(63)
		return number(n, 0), strconv.Itoa(n)
	case 6:
		c := pick("()[]|,", 1)
		return mark(c, 0), c
	default:
		return end(0), "."
	}
	return x, x.Text
}

// The tokens and what separates them are the whole text.
func TestTokensCoverTheText(t *testing.T) {
	r := rand.New(rand.NewSource(103))
	for range 5000 {
		s := anyText(r, 20, true)
		l, _, e := lex.Tokens(s)
		if e != api.OK {
			continue
		}
		for i, x := range l {
			till := len(s)
			if i+1 < len(l) {
				till = l[i+1].At
			}
			again, _, e := lex.Tokens(s[x.At:till])
			if e != api.OK || len(again) != 1 || again[0].Text != x.Text || again[0].N != x.N {
				t.Fatalf("%s: %v, but by itself %v, %d", brief(s), x, again, e)
			}
			// A point is an End at the end of a text, whatever it was before something else.
			if again[0].Kind != x.Kind && x.Text != "." {
				t.Errorf("%s: %v, but by itself %v", brief(s), x, again)
			}
		}
		if !slices.IsSortedFunc(l, func(x, y lex.Token) int { return x.At - y.At }) {
			t.Errorf("%s: not in order: %v", brief(s), l)
		}
	}
}
