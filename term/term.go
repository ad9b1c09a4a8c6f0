// Package term provides terms: whether they are valid, what they consist of, and terms with other variables.
package term

import (
	"iter"
	"slices"

	"finial/api"
)

// Right reports whether t is valid.
func Right(t api.Term) bool {
	n := 0
	// It ends at the first fault, so that a term of any size is refused after at most MaxNodes terms.
	for x, depth := range inside(t) {
		n++
		if n > api.MaxNodes || depth > api.MaxDeep || !rightAlone(x) {
			return false
		}
	}
	return true
}

// Size returns of how many terms t consists.
func Size(t api.Term) int {
	n := 0
	for range inside(t) {
		n++
	}
	return n
}

// Same reports whether two terms are equal field by field.
func Same(a, b api.Term) bool {
	return a.Kind == b.Kind && a.Name == b.Name && a.N == b.N && slices.EqualFunc(a.Args, b.Args, Same)
}

// Vars returns the variables of the terms, each once, in the order of their first occurrence.
func Vars(l []api.Term) []int {
	var vars []int
	seen := map[int]struct{}{}
	for _, t := range l {
		for x := range inside(t) {
			if x.Kind != api.Var {
				continue
			}
			if _, old := seen[x.N]; !old {
				seen[x.N] = struct{}{}
				vars = append(vars, x.N)
			}
		}
	}
	return vars
}

// Ground reports whether t contains no variable.
func Ground(t api.Term) bool {
	for x := range inside(t) {
		if x.Kind == api.Var {
			return false
		}
	}
	return true
}

// Shift returns t with the number of each variable increased by by.
func Shift(t api.Term, by int) (api.Term, api.Errno) {
	if !Right(t) {
		return api.Term{}, api.ErrArg
	}
	if by < 0 {
		return api.Term{}, api.ErrLarge
	}
	for x := range inside(t) {
		// Not x.N + by: that would wrap round if by is very large.
		if x.Kind == api.Var && by >= api.MaxVar-x.N {
			return api.Term{}, api.ErrLarge
		}
	}
	return rename(t, func(v int) int { return v + by }), api.OK
}

// Number returns the terms with their variables renumbered together from 0 on, and how many variables there are.
func Number(l []api.Term) ([]api.Term, int, api.Errno) {
	for _, t := range l {
		if !Right(t) {
			return nil, 0, api.ErrArg
		}
	}
	numbers := map[int]int{}
	for i, v := range Vars(l) {
		numbers[v] = i
	}
	var renumbered []api.Term
	for _, t := range l {
		renumbered = append(renumbered, rename(t, func(v int) int { return numbers[v] }))
	}
	return renumbered, len(numbers), api.OK
}

// inside yields t and all terms inside it, from the left, each before its Args, and with its depth: that of t is 1.
func inside(t api.Term) iter.Seq2[api.Term, int] {
	return func(yield func(api.Term, int) bool) {
		walk(t, 1, yield)
	}
}

// walk hands on the one yield at every depth: ranging over inside again for each Arg would pass each term through all the levels above it.
func walk(t api.Term, depth int, yield func(api.Term, int) bool) bool {
	if !yield(t, depth) {
		return false
	}
	for _, a := range t.Args {
		if !walk(a, depth+1, yield) {
			return false
		}
	}
	return true
}

// rightAlone reports whether t is valid as far as its own fields tell, whatever its Args are.
func rightAlone(t api.Term) bool {
	switch t.Kind {
	case api.Var:
		return t.N >= 0 && t.N < api.MaxVar && t.Name == "" && len(t.Args) == 0
	case api.Num:
		return t.Name == "" && len(t.Args) == 0
	case api.Fun:
		return t.N == 0 && rightName(t.Name) && len(t.Args) <= api.MaxArity
	}
	return false
}

func rightName(name string) bool {
	if name == "" || len(name) > api.MaxName {
		return false
	}
	for i := range len(name) {
		if name[i] < 32 || name[i] > 126 {
			return false
		}
	}
	return true
}

// rename copies all of t, so that the result shares no memory with it.
func rename(t api.Term, to func(v int) int) api.Term {
	if t.Kind == api.Var {
		return api.Term{Kind: api.Var, N: to(t.N)}
	}
	var args []api.Term
	for _, a := range t.Args {
		args = append(args, rename(a, to))
	}
	return api.Term{Kind: t.Kind, Name: t.Name, N: t.N, Args: args}
}
