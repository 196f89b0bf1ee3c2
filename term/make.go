package term

import (
	"scholium/api"
	"scholium/level"
)

// Spine: a term's head, and what it is applied to.
func Spine(t api.Term) (api.Term, []api.Term) {
	head, n := &t, 0
	for ; applied(head); n++ {
		head = &head.Args[0]
	}
	if n == 0 {
		return clone(head), nil
	}
	args := make([]api.Term, n)
	for x := &t; n > 0; x = &x.Args[0] {
		n--
		copyTo(&args[n], &x.Args[1])
	}
	return clone(head), args
}

func applied(t *api.Term) bool { return t.Kind == api.TApp && len(t.Args) == 2 }

// Var: a variable.
func Var(n int) api.Term { return api.Term{Kind: api.TVar, N: n} }

// Sort: a sort.
func Sort(l api.Level) api.Term {
	return api.Term{Kind: api.TSort, Levels: cloneLevels([]api.Level{l})}
}

// Const: a constant.
func Const(name string, levels ...api.Level) api.Term {
	return api.Term{Kind: api.TConst, Name: name, Levels: cloneLevels(levels)}
}

// App: a term applied to others.
func App(f api.Term, args ...api.Term) api.Term {
	out := clone(&f)
	for i := range args {
		out = made(api.TApp, out, clone(&args[i]))
	}
	return out
}

// Lam: a function.
func Lam(body api.Term, types ...api.Term) api.Term { return bound(api.TLam, body, types) }

// Pi: a type of functions.
func Pi(body api.Term, types ...api.Term) api.Term { return bound(api.TPi, body, types) }

func bound(kind int, body api.Term, types []api.Term) api.Term {
	out := clone(&body)
	for i := len(types) - 1; i >= 0; i-- {
		out = made(kind, clone(&types[i]), out)
	}
	return out
}

// Let: a value that is named.
func Let(typ, value, body api.Term) api.Term {
	return made(api.TLet, clone(&typ), clone(&value), clone(&body))
}

// made keeps its args: they are the maker's own.
func made(kind int, args ...api.Term) api.Term { return api.Term{Kind: kind, Args: args} }

// Arrow: the functions from types to a type.
func Arrow(to api.Term, from ...api.Term) (api.Term, bool) {
	size := Nodes(to) + len(from)
	ok := Right(to, api.MaxParams, anyVars)
	for i := range from {
		size += Nodes(from[i])
		if !ok || size > api.MaxNodes || !Right(from[i], api.MaxParams, anyVars) {
			return api.Term{}, false
		}
	}
	if !ok {
		return api.Term{}, false
	}
	out := clone(&to)
	raise(&out, len(from), 0)
	for i := len(from) - 1; i >= 0; i-- {
		typ := clone(&from[i])
		raise(&typ, i, 0)
		out = made(api.TPi, typ, out)
	}
	return out, true
}

// raise works on a term of the maker's own: by is added to the variables from from on.
func raise(t *api.Term, by, from int) {
	if t.Kind == api.TVar && t.N >= from {
		t.N += by
	}
	for i := range t.Args {
		raise(&t.Args[i], by, from+deeper(t, i))
	}
}

func clone(t *api.Term) api.Term {
	var out api.Term
	copyTo(&out, t)
	return out
}

func copyTo(out, t *api.Term) {
	out.Kind, out.N, out.Name, out.Levels = t.Kind, t.N, t.Name, cloneLevels(t.Levels)
	if len(t.Args) > 0 {
		out.Args = make([]api.Term, len(t.Args))
	}
	for i := range t.Args {
		copyTo(&out.Args[i], &t.Args[i])
	}
}

func cloneLevels(list []api.Level) []api.Level {
	if len(list) == 0 {
		return nil
	}
	out := make([]api.Level, len(list))
	for i := range list {
		out[i] = level.Max(list[i])
	}
	return out
}
