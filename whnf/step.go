package whnf

import (
	"slices"

	"scholium/api"
	"scholium/bind"
	"scholium/term"
)

// A find is a step that can be done: its kind (0, if there is none), and what makes it.
type find struct {
	kind int
	make func()
}

// take does a step that was found, for a tick.
func (r *Run) take(s *state, f find) {
	r.tick()
	f.make()
	s.check()
}

// step does one step of a term, and answers its kind.
func (r *Run) step(s *state) int {
	f := r.plain(s)
	if f.kind == 0 {
		major := r.major(s)
		if major == nil {
			return 0
		}
		r.reduce(major)
		f = r.iota(s, major)
	}
	if f.kind != 0 {
		r.take(s, f)
	}
	return f.kind
}

// reduce does steps as long as there are any. What waits for its major stands in a list, not in calls: majors may nest as deep as there are ticks.
func (r *Run) reduce(s *state) {
	wait := []*state{s}
	for len(wait) > 0 {
		top := wait[len(wait)-1]
		if f := r.plain(top); f.kind != 0 {
			r.take(top, f)
		} else if major := r.major(top); major != nil {
			wait = append(wait, major)
		} else {
			wait = r.settle(wait)
		}
	}
}

// settle: the last one that waits is done. That before it does its step; if it has none, it is done, too.
func (r *Run) settle(wait []*state) []*state {
	for {
		last := len(wait) - 1
		done := wait[last]
		wait = wait[:last]
		if last == 0 {
			return wait
		}
		top := wait[last-1]
		if f := r.iota(top, done); f.kind != 0 {
			r.take(top, f)
			return wait
		}
	}
}

// plain: the step of a term that needs no other term's steps.
func (r *Run) plain(s *state) find {
	switch s.head.Kind {
	case api.TLam:
		if len(s.args) > 0 {
			return find{Beta, func() { s.put(inst(&s.head.Args[1], s.pop())) }}
		}
	case api.TLet:
		return find{Zeta, func() { s.put(inst(&s.head.Args[2], &s.head.Args[1])) }}
	case api.TConst:
		return r.delta(s)
	}
	return find{}
}

func (r *Run) delta(s *state) find {
	if r.env.Kind(s.head.Name) != api.DDef {
		return find{}
	}
	value, err := r.env.Value(s.head.Name, s.head.Levels)
	if err == api.ErrLevel {
		return find{}
	}
	return find{Delta, func() {
		if err != api.OK {
			panic(stop{api.ErrMany})
		}
		s.put(value)
	}}
}

// inst: a body with a term in the variable's place.
func inst(body, by *api.Term) api.Term {
	out, ok := bind.Inst(*body, *by)
	if !ok {
		panic(stop{api.ErrMany})
	}
	return out
}

// major: what a recursor's step hangs on; nil, if the head is no recursor that has its major.
func (r *Run) major(s *state) *state {
	if s.head.Kind != api.TConst || r.env.Kind(s.head.Name) != api.ERec {
		return nil
	}
	e, _ := r.env.Get(s.head.Name)
	rec := recursor{e.Fixed + 1 + len(e.Ctors), e.Index + 1, e.Ctors}
	at := len(s.args) - rec.lead - rec.skip
	if len(s.head.Levels) != e.Params || at < 0 {
		return nil
	}
	s.rec = &rec
	return stateOf(s.args[at].Term)
}

// iota: the step of a recursor whose major is reduced.
func (r *Run) iota(s, major *state) find {
	rec, name := s.rec, major.head.Name
	if major.head.Kind != api.TConst || !slices.Contains(rec.ctors, name) || r.env.Kind(name) != api.ECtor {
		return find{}
	}
	e, _ := r.env.Get(name)
	if e.Value.Kind == 0 || len(major.args) != e.Fixed+e.Fields {
		return find{}
	}
	return find{Iota, func() {
		rule, ok := term.Levels(e.Value, s.head.Levels)
		if !ok {
			panic(stop{api.ErrMany})
		}
		n := len(s.args)
		others, lead := s.args[:n-rec.lead-rec.skip], s.args[n-rec.lead:]
		s.args = slices.Concat(others, major.args[:e.Fields], lead)
		s.put(rule)
	}}
}
