package arith_test

import (
	"math/rand"
	"slices"
	"strings"
	"testing"

	"finial/sample"
)

// P12.2: Compare.

// checkComparisons asks for all comparisons of a and b; order is below 0 if a is less, and above 0 if it is greater.
func checkComparisons(t *testing.T, a, b, order int) {
	t.Helper()
	checkCompare(t, "=:=", a, b, order == 0)
	checkCompare(t, `=\=`, a, b, order != 0)
	checkCompare(t, "<", a, b, order < 0)
	checkCompare(t, ">", a, b, order > 0)
	checkCompare(t, "=<", a, b, order <= 0)
	checkCompare(t, ">=", a, b, order >= 0)
}

func TestComparisons(t *testing.T) {
	checkCompare(t, "=:=", 2, 2, true)
	checkCompare(t, "=:=", 2, 3, false)
	checkCompare(t, "=:=", 3, 2, false)
	checkCompare(t, `=\=`, 2, 2, false)
	checkCompare(t, `=\=`, 2, 3, true)
	checkCompare(t, `=\=`, 3, 2, true)
	checkCompare(t, "<", 2, 2, false)
	checkCompare(t, "<", 2, 3, true)
	checkCompare(t, "<", 3, 2, false)
	checkCompare(t, ">", 2, 2, false)
	checkCompare(t, ">", 2, 3, false)
	checkCompare(t, ">", 3, 2, true)
	checkCompare(t, "=<", 2, 2, true)
	checkCompare(t, "=<", 2, 3, true)
	checkCompare(t, "=<", 3, 2, false)
	checkCompare(t, ">=", 2, 2, true)
	checkCompare(t, ">=", 2, 3, false)
	checkCompare(t, ">=", 3, 2, true)
	checkComparisons(t, -3, -2, -1)
	checkComparisons(t, -2, 2, -1)
	checkComparisons(t, 2, -2, 1)
	checkComparisons(t, 0, 0, 0)
}

// The numbers are so far apart that their difference would wrap round.
func TestComparisonsOfEdges(t *testing.T) {
	checkComparisons(t, least, greatest, -1)
	checkComparisons(t, greatest, least, 1)
	l := edges()
	for i, a := range l {
		for k, b := range l {
			checkComparisons(t, a, b, i-k)
		}
	}
}

func TestComparisonsOfAnyNumbers(t *testing.T) {
	r := rand.New(rand.NewSource(520))
	for range 20000 {
		l := []int{anyNumber(r), anyNumber(r)}
		a, b := slices.Min(l), slices.Max(l)
		order := -1
		if a == b {
			order = 0
		}
		checkComparisons(t, a, b, order)
		checkComparisons(t, b, a, -order)
	}
}

func TestOtherComparisons(t *testing.T) {
	for _, name := range []string{
		"", " ", "=", `\=`, "==", `\==`, "@<", "@>", "@=<", "@>=", "is", "=..", "fail", "nl", "var", "arg", "true", "!", ",", ";", "->", `\+`, ":-", "?", "+", "-", "*", "//", "mod", "a",
		"<=", "=>", "<>", "!=", "≤", "≥", "=:", ":=", "=:= ", " =:=", "=:==", "=:=\x00", "'<'", "< ", " <", "<<", ">>", "=<=", ">==", `=\`, `\=\`, `=\\=`, "=/=", "\x00", "\xff", "<\xff", strings.Repeat("<", 1<<20),
	} {
		for _, a := range []int{least, -1, 0, 1, greatest} {
			for _, b := range []int{least, -1, 0, 1, greatest} {
				checkNoComparison(t, name, a, b)
			}
		}
	}
}

// All names of up to four bytes of those of the comparisons, and all of one byte and of two.
func TestAllNamesOfComparisons(t *testing.T) {
	check := func(name string) {
		if !slices.Contains([]string{"=:=", `=\=`, "<", ">", "=<", ">="}, name) {
			checkNoComparison(t, name, 4, 4)
			checkNoComparison(t, name, 4, 5)
		}
	}
	for n := range 5 {
		sample.Texts(`=:\<>@ `, n, check)
	}
	all := ""
	for b := range 256 {
		all += string([]byte{byte(b)})
	}
	sample.Texts(all, 1, check)
	sample.Texts(all, 2, check)
}
