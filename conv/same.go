package conv

import (
	"slices"

	"scholium/api"
	"scholium/bind"
	"scholium/level"
	"scholium/term"
)

// What is told of a question.
const (
	open = iota
	yes
	no
)

// How far a question has come.
const (
	fresh  = iota
	atArgs // of two spines of one constant, as they stand
	atForms
)

// A pair is two parts that must be one, in the context with a type behind, if there is one.
type pair struct {
	under *api.Term
	a, b  *api.Term
}

// A question is whether two terms are one.
type question struct {
	ctx   []api.Term
	a, b  *api.Term
	stage int
	asked bool   // were the arguments asked, as they stand?
	left  []pair // what must be one, too
}

// same asks questions, and those that they hang on ahead of them. What waits stands in a list, not in calls: questions may nest as deep as there are ticks.
func (c *Conv) same(ctx []api.Term, a, b *api.Term) bool {
	wait := []*question{{ctx: ctx, a: a, b: b}}
	answer := open
	for {
		last := len(wait) - 1
		var first *question
		answer, first = c.advance(wait[last], answer)
		switch {
		case first != nil:
			wait = append(wait, first)
		case answer == open: // another question stands in its place
		case last == 0:
			return answer == yes
		default:
			wait = wait[:last]
		}
	}
}

// advance goes on with a question, to which the one that was asked last had an answer: what is told of it, or what must be asked first.
func (c *Conv) advance(q *question, answer int) (int, *question) {
	switch {
	case q.stage == fresh:
		return c.begin(q)
	case answer == yes:
		return c.next(q)
	case q.stage == atArgs:
		return c.reduced(q)
	}
	return c.proofs(q)
}

func (c *Conv) begin(q *question) (int, *question) {
	c.tick()
	if term.Same(*q.a, *q.b) {
		return yes, nil
	}
	list, ok := spines(q.a, q.b)
	if !ok || len(list) == 0 || headOf(q.a).Kind != api.TConst {
		return c.reduced(q)
	}
	q.stage, q.asked, q.left = atArgs, true, list
	return c.next(q)
}

// next: the first one of the pairs that are left.
func (c *Conv) next(q *question) (int, *question) {
	if len(q.left) == 0 {
		return yes, nil
	}
	p, ctx := q.left[0], q.ctx
	q.left = q.left[1:]
	if p.under != nil {
		ctx = deeper(ctx, p.under)
	}
	return open, &question{ctx: ctx, a: p.a, b: p.b}
}

// reduced goes on by the terms' weak head normal forms.
func (c *Conv) reduced(q *question) (int, *question) {
	a, b := c.whnf(*q.a), c.whnf(*q.b)
	still := term.Same(a, *q.a) && term.Same(b, *q.b) // steps that lead back would never end
	q.a, q.b = &a, &b
	if still && q.asked {
		return c.proofs(q)
	}
	list, ok := forms(&a, &b)
	if !ok {
		return c.proofs(q)
	}
	q.stage, q.left = atForms, list
	return c.next(q)
}

// proofs: two proofs are one, if their types are: that question stands in the place of this one.
func (c *Conv) proofs(q *question) (int, *question) {
	a, is := c.proof(q.ctx, q.a)
	if !is {
		return no, nil
	}
	b, is := c.proof(q.ctx, q.b)
	if !is {
		return no, nil
	}
	*q = question{ctx: q.ctx, a: &a, b: &b}
	return open, nil
}

// forms: of which parts does it hang that two weak head normal forms are one? False, if they aren't.
func forms(a, b *api.Term) ([]pair, bool) {
	switch {
	case a.Kind == api.TSort && b.Kind == api.TSort:
		return nil, level.Same(a.Levels[0], b.Levels[0])
	case a.Kind == b.Kind && (a.Kind == api.TPi || a.Kind == api.TLam):
		return []pair{{nil, &a.Args[0], &b.Args[0]}, {&a.Args[0], &a.Args[1], &b.Args[1]}}, true
	case a.Kind == api.TLam:
		return eta(a, b), true
	case b.Kind == api.TLam:
		return eta(b, a), true
	}
	return spines(a, b)
}

// eta: a function, and what must be its body, applied to the function's variable.
func eta(f, o *api.Term) []pair {
	raised := fits(bind.Lift(*o, 1, 0))
	applied := small(api.Term{Kind: api.TApp, Args: []api.Term{raised, term.Var(0)}})
	return []pair{{&f.Args[0], &f.Args[1], &applied}}
}

// spines: the arguments of two spines of one head, pair by pair.
func spines(a, b *api.Term) ([]pair, bool) {
	var list []pair
	for a.Kind == api.TApp && b.Kind == api.TApp {
		list = append(list, pair{nil, &a.Args[1], &b.Args[1]})
		a, b = &a.Args[0], &b.Args[0]
	}
	slices.Reverse(list)
	return list, a.Kind == b.Kind && (a.Kind == api.TVar && a.N == b.N || a.Kind == api.TConst && a.Name == b.Name && alike(a.Levels, b.Levels))
}

func headOf(t *api.Term) *api.Term {
	for t.Kind == api.TApp {
		t = &t.Args[0]
	}
	return t
}

func alike(a, b []api.Level) bool {
	if len(a) != len(b) {
		return false
	}
	for i := range a {
		if !level.Same(a[i], b[i]) {
			return false
		}
	}
	return true
}
