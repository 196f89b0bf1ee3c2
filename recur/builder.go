package recur

import (
	"strconv"

	"scholium/api"
	"scholium/deps"
	"scholium/level"
	"scholium/name"
	"scholium/posit"
	"scholium/tele"
	"scholium/term"
)

// A builder has the family's parts as locals, whose names stand nowhere else.
type builder struct {
	api.Decl
	form            posit.Family
	top             string // what the locals' names begin with
	given           int    // how many names were given
	sort            api.Level
	self, rec       api.Term // the family, and the recursor, at their universe parameters
	params, indices []tele.Local
	motive          tele.Local
	minors          []tele.Local
}

// A cases is a constructor, opened: what is told of it, and by what.
type cases struct {
	ctor    api.Term
	fields  []tele.Local
	targets []api.Term
	known   []known
}

// A known is a recursive field, with its arms opened.
type known struct {
	field   api.Term
	arms    []tele.Local
	targets []api.Term
}

// applied: the field applied to the arms.
func (k *known) applied() api.Term { return term.App(k.field, tele.Consts(k.arms)...) }

func builderOf(d api.Decl, form posit.Family, large bool) *builder {
	b := &builder{Decl: d, form: form, top: topOf(d), sort: level.Num(0)}
	own := ownLevels(d.Params)
	names := deps.Names(d)
	b.self = term.Const(d.Name, own...)
	if large {
		b.sort = level.Param(d.Params)
		own = ownLevels(d.Params + 1)
	}
	b.rec = term.Const(names[len(names)-1], own...)
	locals, _ := open(d.Type, b.fresh(d.Fixed+form.Indices)...)
	b.params, b.indices = locals[:d.Fixed], locals[d.Fixed:]
	typ := closed(api.TPi, term.Sort(b.sort), join(b.indices, one(b.thing()))...)
	b.motive = tele.Local{Name: b.fresh(1)[0], Type: typ}
	return b
}

func ownLevels(n int) []api.Level {
	var out []api.Level
	for i := range n {
		out = append(out, level.Param(i))
	}
	return out
}

// topOf: what none of the family's terms, and none of its names, begins with.
func topOf(d api.Decl) string {
	terms := []api.Term{d.Type}
	for _, n := range deps.Names(d) {
		terms = append(terms, term.Const(n))
	}
	for i := range d.Ctors {
		terms = append(terms, d.Ctors[i].Type)
	}
	return name.Parent(tele.Names(1, terms...)[0])
}

// fresh: so many names that weren't given yet.
func (b *builder) fresh(n int) []string {
	var out []string
	for range n {
		out = append(out, b.top+".x"+strconv.Itoa(b.given))
		b.given++
	}
	return out
}

// thing: a local of the family at its parameters and indices.
func (b *builder) thing() tele.Local {
	typ := term.App(term.App(b.self, tele.Consts(b.params)...), tele.Consts(b.indices)...)
	return tele.Local{Name: b.fresh(1)[0], Type: typ}
}

// motiveOf: the motive, applied to what stands for the indices.
func (b *builder) motiveOf(targets []api.Term) api.Term {
	return term.App(term.Const(b.motive.Name), targets...)
}

// open opens a constructor, at the family's parameters.
func (b *builder) open(at int) cases {
	form := &b.form.Ctors[at]
	var names []string
	for _, p := range b.params {
		names = append(names, p.Name)
	}
	names = append(names, b.fresh(len(form.Fields))...)
	locals, body := open(b.Ctors[at].Type, names...)
	c := cases{ctor: term.Const(b.Ctors[at].Name, b.self.Levels...), fields: locals[b.Fixed:], targets: b.targets(body)}
	for i, arms := range form.Arms {
		if arms >= 0 {
			locals, rest := open(c.fields[i].Type, b.fresh(arms)...)
			c.known = append(c.known, known{term.Const(c.fields[i].Name), locals, b.targets(rest)})
		}
	}
	return c
}

// targets: what the family is applied to, behind its parameters.
func (b *builder) targets(t api.Term) []api.Term {
	_, args := term.Spine(t)
	return args[b.Fixed:]
}

// open: the first binders as locals, and the body.
func open(t api.Term, names ...string) ([]tele.Local, api.Term) {
	locals, body, ok := tele.Open(t, api.TPi, names...)
	if !ok {
		panic(stop{api.ErrMany})
	}
	return locals, body
}

// closed: binders of a kind over a body.
func closed(kind int, body api.Term, locals ...tele.Local) api.Term {
	out, ok := tele.Close(kind, body, locals...)
	if !ok {
		panic(stop{api.ErrMany})
	}
	return out
}

// one: a list of a local.
func one(l tele.Local) []tele.Local { return []tele.Local{l} }

// join: locals, one list behind the other.
func join(lists ...[]tele.Local) []tele.Local {
	var out []tele.Local
	for _, l := range lists {
		out = append(out, l...)
	}
	return out
}
