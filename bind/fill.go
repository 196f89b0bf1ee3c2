package bind

import (
	"scholium/api"
	"scholium/level"
	"scholium/term"
)

// anyVars is any number of variables.
const anyVars = 1 << 50

// right: are all calls of this layer promised of the term?
func right(t *api.Term) bool { return term.Right(*t, api.MaxParams, anyVars) }

// A filling is what stands in a leaf's place: a term, raised over the binders that the leaf stands in; or, without one, the leaf itself with a number.
type filling struct {
	term   *api.Term
	number int
}

// A leaf tells what stands in the place of a variable or a constant so many binders deep; false, if nothing can.
type leaf func(x *api.Term, deep int) (filling, bool)

// A filler counts how many nodes more the outcome may have.
type filler struct{ left int }

// filled: a right term with its leaves' fillings, if it hasn't too many nodes.
func filled(t *api.Term, by leaf) (api.Term, bool) {
	var out api.Term
	f := filler{api.MaxNodes}
	if !f.fill(&out, t, 0, by) {
		return api.Term{}, false
	}
	return out, true
}

func (f *filler) fill(out, t *api.Term, deep int, by leaf) bool {
	number := t.N
	if t.Kind == api.TVar || t.Kind == api.TConst {
		put, ok := by(t, deep)
		switch {
		case !ok:
			return false
		case put.term != nil:
			return f.fill(out, put.term, 0, raised(deep, 0))
		}
		number = put.number
	}
	if !f.node(out, t, number) {
		return false
	}
	for i := range t.Args {
		if !f.fill(&out.Args[i], &t.Args[i], deep+deeper(t, i), by) {
			return false
		}
	}
	return true
}

// node lays a node like t, with room for its parts, if the outcome may have so many nodes more.
func (f *filler) node(out, t *api.Term, number int) bool {
	f.left--
	out.Kind, out.N, out.Name = t.Kind, number, t.Name
	if len(t.Levels) > 0 {
		out.Levels = make([]api.Level, len(t.Levels))
	}
	for i := range t.Levels {
		f.left -= level.Nodes(t.Levels[i])
		out.Levels[i] = level.Max(t.Levels[i])
	}
	if len(t.Args) > 0 {
		out.Args = make([]api.Term, len(t.Args))
	}
	return f.left >= 0
}

// deeper: in how many binders more does a part stand?
func deeper(t *api.Term, at int) int {
	if t.Kind >= api.TLam && at == len(t.Args)-1 {
		return 1
	}
	return 0
}
