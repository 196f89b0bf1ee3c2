package whnf

import (
	"scholium/api"
	"scholium/term"
)

// A job is a weak head normal form, of whose parts there are normal forms already.
type job struct {
	head  *api.Term
	parts []*api.Term // of the head, and what it is applied to
	done  []*api.Term
}

// job reduces a term.
func (r *Run) job(t *api.Term) *job {
	s := stateOf(t)
	r.reduce(s)
	j := &job{head: s.head}
	if s.head.Kind == api.TLam || s.head.Kind == api.TPi {
		j.parts = []*api.Term{&s.head.Args[0], &s.head.Args[1]}
	}
	j.parts = append(j.parts, s.inOrder()...)
	return j
}

// normal puts normal forms together. What waits for its parts stands in a list, not in calls, as in reduce.
func (r *Run) normal(t *api.Term) api.Term {
	wait := []*job{r.job(t)}
	for {
		last := len(wait) - 1
		top := wait[last]
		if n := len(top.done); n < len(top.parts) {
			wait = append(wait, r.job(top.parts[n]))
			continue
		}
		out := top.together()
		if last == 0 {
			return out
		}
		wait = wait[:last]
		wait[last-1].done = append(wait[last-1].done, &out)
	}
}

// together: the head with its parts' normal forms.
func (j *job) together() api.Term {
	head, args := *j.head, j.done
	if own := len(head.Args); own > 0 {
		head.Args = make([]api.Term, own)
		for i := range head.Args {
			head.Args[i] = *args[i]
		}
		args = args[own:]
	}
	out := applied(head, args)
	if term.Nodes(out) > api.MaxNodes {
		panic(stop{api.ErrMany})
	}
	return out
}
