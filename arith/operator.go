package arith

import (
	"math"

	"finial/api"
)

// operator is a name and a number of Args.
type operator struct {
	name string
	args int
}

// operations are what operators do with the values of their Args; of one Arg, the second value is 0 and means nothing.
// With their result they report whether it is a value.
type operations map[operator]func(a, b int) (int, bool)

func operators() operations {
	return operations{
		{"+", 2}:   sum,
		{"-", 2}:   difference,
		{"-", 1}:   func(a, _ int) (int, bool) { return difference(0, a) },
		{"*", 2}:   product,
		{"//", 2}:  quotient,
		{"mod", 2}: remainder,
	}
}

// value returns the value of a valid term.
func (all operations) value(t api.Term) (int, api.Errno) {
	switch t.Kind {
	case api.Var:
		return 0, api.ErrInst
	case api.Num:
		return t.N, api.OK
	}
	do, known := all[operator{t.Name, len(t.Args)}]
	if !known {
		return 0, api.ErrType
	}
	var values [2]int
	for i, a := range t.Args {
		v, e := all.value(a)
		if e != api.OK {
			return 0, e
		}
		values[i] = v
	}
	v, is := do(values[0], values[1])
	if !is {
		return 0, api.ErrEval
	}
	return v, api.OK
}

// A sum that wraps round lies on the wrong side of a, and a difference, too.

func sum(a, b int) (int, bool) {
	v := a + b
	return v, (v < a) == (b < 0)
}

func difference(a, b int) (int, bool) {
	v := a - b
	return v, (v > a) == (b < 0)
}

func product(a, b int) (int, bool) {
	if a == 0 {
		return 0, true
	}
	// Division shows whether a product wrapped round, but by -1 it wraps round itself.
	if a == -1 {
		return difference(0, b)
	}
	v := a * b
	return v, v/a == b
}

func quotient(a, b int) (int, bool) {
	if b == 0 || a == math.MinInt && b == -1 {
		return 0, false
	}
	return a / b, true
}

// remainder is that of a division rounded towards the smaller number; the one of % is that of a division rounded towards 0.
func remainder(a, b int) (int, bool) {
	if b == 0 {
		return 0, false
	}
	v := a % b
	if v != 0 && (v < 0) != (b < 0) {
		v += b
	}
	return v, true
}
