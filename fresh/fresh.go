// Package fresh copies what the layers return, so that no result shares memory with an argument.
package fresh

import "finial/api"

// Copy returns t in new memory. It takes any term, as some layers return terms that are not valid.
func Copy(t api.Term) api.Term {
	var args []api.Term
	for _, a := range t.Args {
		args = append(args, Copy(a))
	}
	t.Args = args
	return t
}
