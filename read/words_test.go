package read_test

import (
	"math/rand"
	"strings"
	"testing"
)

// P9.1: the calls against the chapter's words, on many texts.

// checkCount asks whether enough texts of both kinds were read.
func checkCount(t *testing.T, count map[bool]int, right, wrong int) {
	t.Helper()
	if count[true] < right || count[false] < wrong {
		t.Errorf("too few of one kind: %v", count)
	}
}

func TestAllShortTexts(t *testing.T) {
	count := map[bool]int{}
	check := func(s string) {
		count[checkWords(t, s)]++
		count[checkWords(t, s+" .")]++
	}
	all := []string{"a", "X", "_", "1", "-", "\\+", "'-'", "=", "','", ",", ":-", "*", "(", ")", "f(", "[", "]", "[]", "|", ". "}
	for n := range 4 {
		texts(all, n, " ", check)
		texts(all, n, "", check)
	}
	texts([]string{"a", "1", "-", "\\+", "=", ",", "(", ")", "f(", "[", "]", "|"}, 4, " ", check)
	texts([]string{"a", "-", "-1", "\\+", "-(", "=", "+", ")"}, 5, " ", check)
	texts([]string{"a ", "X", "[", "]", "|", ",", "- "}, 5, "", check)
	checkCount(t, count, 5000, 100000)
}

// All texts of operators alone between names: which of them stands between which, if any.
func TestAllOperators(t *testing.T) {
	count := map[bool]int{}
	l := []string{"a", "1", "-", "\\+", "- ", ":-", ";", "->", ",", "is", "=", "+", "mod"}
	texts(l, 4, " ", func(s string) { count[checkWords(t, s+" .")]++ })
	texts([]string{":-", ";", "->", ",", "=", "+", "*"}, 3, " a ", func(s string) {
		count[checkWords(t, "a "+s+" a .")]++
		count[checkWords(t, "f(a "+s+" a).")]++
		count[checkWords(t, "[a "+s+" a].")]++
		count[checkWords(t, "\\+ a "+s+" a .")]++
		count[checkWords(t, "- a "+s+" \\+ a .")]++
	})
	checkCount(t, count, 2500, 20000)
}

func TestAnyTexts(t *testing.T) {
	r := rand.New(rand.NewSource(201))
	count := map[bool]int{}
	for range 60000 {
		count[checkWords(t, anyText(r, 6))]++
		count[checkWords(t, anyText(r, 12))]++
	}
	for range 2000 {
		checkWords(t, anyText(r, 300))
	}
	checkCount(t, count, 12000, 60000)
}

// Texts that were terms, with a piece too few, too many, or at another place.
func TestNearlyRightTexts(t *testing.T) {
	r := rand.New(rand.NewSource(202))
	count := map[bool]int{}
	for range 30000 {
		var l []string
		for range 1 + r.Intn(3) {
			x := anyRead(r, 1+r.Intn(4))
			l = append(l, strings.Split(x.text(r, 1200), " ")...)
			l = append(l, ".\n")
		}
		i, k := r.Intn(len(l)), r.Intn(len(l))
		switch r.Intn(4) {
		case 0:
			l[i] = ""
		case 1:
			l[i], l[k] = l[k], l[i]
		case 2:
			l[i] = l[k]
		case 3:
			l[i] += " " + l[k]
		}
		count[checkWords(t, strings.Join(l, " "))]++
	}
	checkCount(t, count, 4000, 10000)
}
