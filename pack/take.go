package pack

import (
	"bytes"

	"scholium/api"
	"scholium/wire"
)

// TakeLevel: the level at the beginning of bytes.
func TakeLevel(b []byte) (api.Level, []byte, bool) {
	r := reader{b: b}
	l := r.level()
	if _, ok := Level(l); !ok || r.bad {
		return api.Level{}, nil, false
	}
	return l, bytes.Clone(r.b), true
}

// TakeTerm: the term at the beginning of bytes.
func TakeTerm(b []byte) (api.Term, []byte, bool) {
	r := reader{b: b}
	t := r.term()
	if r.bad || !packs(&t) {
		return api.Term{}, nil, false
	}
	return t, bytes.Clone(r.b), true
}

// TakeDecl: the declaration at the beginning of bytes.
func TakeDecl(b []byte) (api.Decl, []byte, bool) {
	r := reader{b: b}
	d := r.decl()
	if r.bad || !Formed(d) {
		return api.Decl{}, nil, false
	}
	return d, bytes.Clone(r.b), true
}

const (
	longNum  = 6                     // bytes of the greatest number
	longName = longNum + api.MaxName // and of a name with its length
)

// A reader takes parts off the beginning of bytes. It is bad as soon as there is none; what it reads then is dropped.
type reader struct {
	b     []byte
	nodes int // of the term, or the level, that is read
	bad   bool
}

// number looks at no more bytes than a number may have: what wire answers is a copy of what is behind.
func (r *reader) number() int {
	near := r.b[:min(longNum, len(r.b))]
	n, rest, ok := wire.Num(near)
	r.bad = r.bad || !ok
	r.b = r.b[len(near)-len(rest):]
	return n
}

func (r *reader) name() string {
	near := r.b[:min(longName, len(r.b))]
	s, rest, ok := wire.Text(near)
	r.bad = r.bad || !ok
	r.b = r.b[len(near)-len(rest):]
	return s
}

// room: may there be a node more? Bytes without end would nest without end else.
func (r *reader) room() bool {
	r.nodes++
	r.bad = r.bad || r.nodes > api.MaxNodes
	return !r.bad
}

func (r *reader) level() api.Level {
	l := api.Level{Kind: r.number()}
	if !r.room() {
		return api.Level{}
	}
	switch l.Kind {
	case api.LNum, api.LParam:
		l.N = r.number()
	case api.LSucc:
		l.Args = r.levels(1)
	case api.LMax, api.LIMax:
		l.Args = r.levels(2)
	default:
		r.bad = true
	}
	return l
}

func (r *reader) levels(n int) []api.Level {
	var list []api.Level
	for range n {
		list = append(list, r.level())
	}
	return list
}

func (r *reader) term() api.Term {
	t := api.Term{Kind: r.number()}
	if !r.room() {
		return api.Term{}
	}
	switch t.Kind {
	case api.TVar:
		t.N = r.number()
	case api.TSort:
		t.Levels = r.levels(1)
	case api.TConst:
		t.Name = r.name()
		t.Levels = r.levels(min(r.number(), api.MaxParams+1))
	case api.TApp, api.TLam, api.TPi:
		t.Args = r.terms(2)
	case api.TLet:
		t.Args = r.terms(3)
	default:
		r.bad = true
	}
	return t
}

func (r *reader) terms(n int) []api.Term {
	var list []api.Term
	for range n {
		list = append(list, r.term())
	}
	return list
}

// whole: a term by itself, with nodes of its own.
func (r *reader) whole() api.Term {
	r.nodes = 0
	return r.term()
}

func (r *reader) decl() api.Decl {
	d := api.Decl{Kind: r.number(), Name: r.name(), Params: r.number(), Type: r.whole()}
	switch d.Kind {
	case api.DDef, api.DThm, api.DOpaque:
		d.Value = r.whole()
	case api.DInd:
		d.Fixed = r.number()
		for range min(r.number(), api.MaxCtors+1) {
			d.Ctors = append(d.Ctors, api.Ctor{Name: r.name(), Type: r.whole()})
		}
	}
	return d
}
