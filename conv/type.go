package conv

import (
	"scholium/api"
	"scholium/bind"
	"scholium/level"
)

// typ: a term's type; it may share parts with what it is made of.
func (c *Conv) typ(ctx []api.Term, t *api.Term) api.Term {
	c.tick()
	switch t.Kind {
	case api.TVar:
		return fits(bind.Lift(ctx[len(ctx)-1-t.N], t.N+1, 0))
	case api.TSort:
		return low(level.Succ(t.Levels[0]))
	case api.TConst:
		return must(c.run.Env().Type(t.Name, t.Levels))
	case api.TApp:
		f := c.whnf(c.typ(ctx, &t.Args[0]))
		if f.Kind != api.TPi {
			panic(stop{api.ErrFunc})
		}
		return inst(&f.Args[1], &t.Args[1])
	case api.TLam:
		body := c.typ(deeper(ctx, &t.Args[0]), &t.Args[1])
		return small(api.Term{Kind: api.TPi, Args: []api.Term{t.Args[0], body}})
	case api.TPi:
		l := c.level(ctx, &t.Args[0])
		m := c.level(deeper(ctx, &t.Args[0]), &t.Args[1])
		return low(IMax(l, m))
	}
	body := inst(&t.Args[2], &t.Args[1]) // all others are TLet
	return c.typ(ctx, &body)
}

// level: that of the sort that a term's type comes to.
func (c *Conv) level(ctx []api.Term, t *api.Term) api.Level {
	typ := c.whnf(c.typ(ctx, t))
	if typ.Kind != api.TSort {
		panic(stop{api.ErrSort})
	}
	return typ.Levels[0]
}

// sort: likewise, where the sort itself is asked.
func (c *Conv) sort(ctx []api.Term, t *api.Term) api.Level {
	c.tick()
	return c.level(ctx, t)
}

// proof: a term's type, and is the term a proof? What has no type, or one of no sort, is none.
func (c *Conv) proof(ctx []api.Term, t *api.Term) (api.Term, bool) {
	c.tick()
	var typ api.Term
	is := false
	err := told(func() {
		typ = c.typ(ctx, t)
		is = level.Zero(c.sort(ctx, &typ))
	})
	if err == api.ErrFuel || err == api.ErrMany {
		panic(stop{err})
	}
	return typ, is
}
