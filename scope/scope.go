// Package scope has what layers 14, 15 and 20 ask of a context: the types of variables, the one that is bound farthest out first.
package scope

import (
	"scholium/api"
	"scholium/term"
)

// Most is how many types a context has at most.
const Most = 64

// Right: has a context not too many types, and are they, and terms in it, right for the variables that they may use?
func Right(ctx []api.Term, terms ...api.Term) bool {
	if len(ctx) > Most {
		return false
	}
	for i := range ctx {
		if !term.Right(ctx[i], api.MaxParams, i) {
			return false
		}
	}
	for i := range terms {
		if !term.Right(terms[i], api.MaxParams, len(ctx)) {
			return false
		}
	}
	return true
}

// Deeper: a context with a type behind, if it has room for it. Contexts share types, and nobody changes them.
func Deeper(ctx []api.Term, typ api.Term) ([]api.Term, bool) {
	n := len(ctx)
	if n >= Most {
		return nil, false
	}
	return append(ctx[:n:n], typ), true
}
