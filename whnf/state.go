package whnf

import (
	"slices"

	"scholium/api"
	"scholium/term"
)

// An arg is what a head is applied to.
type arg struct {
	*api.Term
	nodes int
}

// A state is a term by its spine. Its parts are shared with other terms; none of them is changed.
type state struct {
	head *api.Term
	args []arg // the first one stands last
	rec  *recursor
}

// A recursor is what an environment has of the head, while its major is reduced.
type recursor struct {
	lead  int // parameters, motive and minors
	skip  int // indices and major
	ctors []string
}

func stateOf(t *api.Term) *state {
	s := &state{head: t}
	s.unwind()
	return s
}

// unwind makes arguments of what an application at the head has.
func (s *state) unwind() {
	for s.head.Kind == api.TApp {
		s.push(&s.head.Args[1])
		s.head = &s.head.Args[0]
	}
}

// push: the head is applied to a term ahead of all others.
func (s *state) push(t *api.Term) { s.args = append(s.args, arg{t, term.Nodes(*t)}) }

// pop: the first argument, which is one no more.
func (s *state) pop() *api.Term {
	last := len(s.args) - 1
	first := s.args[last]
	s.args = s.args[:last]
	return first.Term
}

// put: a term in place of the head.
func (s *state) put(t api.Term) {
	s.head = &t
	s.unwind()
}

// check stops, if the whole has too many nodes.
func (s *state) check() {
	n := term.Nodes(*s.head)
	for _, a := range s.args {
		n += 1 + a.nodes
	}
	if n > api.MaxNodes {
		panic(stop{api.ErrMany})
	}
}

// inOrder: the arguments, the first one first.
func (s *state) inOrder() []*api.Term {
	var out []*api.Term
	for _, a := range slices.Backward(s.args) {
		out = append(out, a.Term)
	}
	return out
}

// whole: the term, of shared parts.
func (s *state) whole() api.Term { return applied(*s.head, s.inOrder()) }

// applied: a head applied to terms, which it shares.
func applied(head api.Term, args []*api.Term) api.Term {
	for _, a := range args {
		head = api.Term{Kind: api.TApp, Args: []api.Term{head, *a}}
	}
	return head
}
