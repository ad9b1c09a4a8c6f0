package prog_test

import (
	"math"
	"slices"
	"testing"

	"finial/prog"
	"finial/sample"
)

// P11.1: Builtin and Control.

func checkName(t *testing.T, name string, args int, builtin, control bool) {
	t.Helper()
	if got := prog.Builtin(name, args); got != builtin {
		t.Errorf("Builtin of %s, %d: %t", brief(name), args, got)
	}
	if got := prog.Control(name, args); got != control {
		t.Errorf("Control of %s, %d: %t", brief(name), args, got)
	}
}

// checkNameByWords asks for what the lists of the chapter say.
func checkNameByWords(t *testing.T, name string, args int) {
	t.Helper()
	x := signature(name, args)
	checkName(t, name, args, slices.Contains(builtins, x), slices.Contains(controls, x) || name == "?")
}

func TestNames(t *testing.T) {
	for _, name := range []string{"=", "\\=", "==", "\\==", "@<", "@>", "@=<", "@>=", "is", "=:=", "=\\=", "<", ">", "=<", ">=", "=.."} {
		checkName(t, name, 2, true, false)
	}
	for _, name := range []string{"var", "nonvar", "atom", "integer", "write"} {
		checkName(t, name, 1, true, false)
	}
	for _, name := range []string{"functor", "arg"} {
		checkName(t, name, 3, true, false)
	}
	for _, name := range []string{"fail", "nl"} {
		checkName(t, name, 0, true, false)
	}
	for _, name := range []string{"true", "!"} {
		checkName(t, name, 0, false, true)
	}
	for _, name := range []string{",", ";", "->", ":-"} {
		checkName(t, name, 2, false, true)
	}
	checkName(t, "\\+", 1, false, true)
	for _, args := range []int{0, 1, 2, 3, 7, 8, 9, 100, math.MaxInt} {
		checkName(t, "?", args, false, true)
	}
}

// Every name is one with its own number of Args only.
func TestOtherNumbersOfArgs(t *testing.T) {
	for _, name := range []string{
		"=", "\\=", "==", "\\==", "@<", "@>", "@=<", "@>=", "is", "=:=", "=\\=", "<", ">", "=<", ">=", "=..",
		"var", "nonvar", "atom", "integer", "write", "functor", "arg", "fail", "nl", "true", "!", ",", ";", "->", ":-", "\\+",
	} {
		for _, args := range []int{-2, -1, 0, 1, 2, 3, 4, 8, 9, 1 << 32, 1<<32 + 2, math.MinInt, math.MaxInt} {
			checkNameByWords(t, name, args)
		}
	}
}

func TestOtherNames(t *testing.T) {
	for _, name := range []string{
		"", "a", "p", "X", "_", "[]", ".", "+", "-", "*", "//", "mod", "?-", "-->", "|", "||", "??", "? ", "!!", "TRUE", "True", "true ", " true", "false", "call", "not", "halt", "repeat",
		"once", "findall", "Is", "is ", "=.", "=...", "==>", "=>", "<=", "=\\", "\\", "\\\\=", "\\+\\+", "@", "@=", "<>", ":", ":=", ":-:-", "'='", "writeln", "atomic", "compound", "number", "fail\x00", "\x00", "\xff", "é",
	} {
		for args := range 10 {
			checkName(t, name, args, false, false)
		}
	}
}

// All names of one byte and of two: those of the lists alone are any.
func TestAllShortNames(t *testing.T) {
	all := ""
	for b := range 256 {
		all += string([]byte{byte(b)})
	}
	for n := range 3 {
		sample.Texts(all, n, func(name string) {
			for args := range 4 {
				checkNameByWords(t, name, args)
			}
		})
	}
}
