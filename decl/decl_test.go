package decl

import (
	"math"
	"reflect"
	"strings"
	"testing"

	"scholium/api"
	"scholium/level"
	"scholium/term"
)

var (
	u, v = level.Param(0), level.Param(1)
	nat  = term.Const("nat")
)

func axiom() api.Entry { return api.Entry{Kind: api.DAxiom, Name: "a", Params: 1, Type: term.Sort(u)} }

func def(kind int) api.Entry {
	e := api.Entry{Kind: kind, Name: "d", Params: 2, Type: term.Sort(v), Value: term.Const("a", u)}
	if kind == api.DDef {
		e.Height = 1
	}
	return e
}

func ind() api.Entry {
	return api.Entry{Kind: api.DInd, Name: "n", Type: nat, Fixed: 16, Ctors: []string{"n.z", "n.s"}}
}

func ctor() api.Entry {
	return api.Entry{Kind: api.ECtor, Name: "n.s", Params: 1, Type: term.Sort(u), Value: term.Sort(v), Family: "n", Fixed: 32, Index: 32, Fields: 32}
}

func rec() api.Entry {
	return api.Entry{Kind: api.ERec, Name: "n.rec", Params: 4, Type: nat, Family: "n", Fixed: 32, Index: 32, Fields: 32, Ctors: []string{"n.z"}}
}

func all() []api.Entry {
	return []api.Entry{axiom(), def(api.DDef), def(api.DThm), def(api.DOpaque), ind(), ctor(), rec()}
}

// changed: an entry with changes of which each one is wrong.
func changed(e api.Entry, changes ...func(e *api.Entry)) []api.Entry {
	var out []api.Entry
	for _, c := range changes {
		w := Clone(e)
		c(&w)
		out = append(out, w)
	}
	return out
}

func wrongEntries() []api.Entry {
	var out []api.Entry
	for _, e := range all() {
		out = append(out, changed(e, func(e *api.Entry) { e.Kind = 0 }, func(e *api.Entry) { e.Kind = 8 }, func(e *api.Entry) { e.Kind = -1 }, func(e *api.Entry) { e.Name = "A" }, func(e *api.Entry) { e.Name = "" }, func(e *api.Entry) { e.Params = -1 }, func(e *api.Entry) { e.Params = 5 }, func(e *api.Entry) { e.Type = api.Term{} }, func(e *api.Entry) { e.Type = term.Var(0) }, func(e *api.Entry) { e.Type = term.Sort(level.Param(4)) })...)
		out = append(out, changed(e, func(e *api.Entry) { e.Value = term.Var(0) }, func(e *api.Entry) { e.Height = -1 }, func(e *api.Entry) { e.Height = 1<<20 + 1 }, func(e *api.Entry) { e.Fixed = -1 }, func(e *api.Entry) { e.Fixed = 33 }, func(e *api.Entry) { e.Index = -1 }, func(e *api.Entry) { e.Index = 33 }, func(e *api.Entry) { e.Fields = -1 }, func(e *api.Entry) { e.Fields = 33 }, func(e *api.Entry) { e.Family = "A" }, func(e *api.Entry) { e.Ctors = []string{""} }, func(e *api.Entry) { e.Ctors = strings.Split("abcdefghi", "") })...)
		if e.Kind != api.DDef {
			out = append(out, changed(e, func(e *api.Entry) { e.Height = 1 })...)
		}
		if e.Kind != api.DInd && e.Kind != api.ERec {
			out = append(out, changed(e, func(e *api.Entry) { e.Ctors = []string{"a"} })...)
		}
		if e.Kind < api.ECtor {
			out = append(out, changed(e, func(e *api.Entry) { e.Index = 1 }, func(e *api.Entry) { e.Fields = 1 }, func(e *api.Entry) { e.Family = "n" }, func(e *api.Entry) { e.Fixed = 17 })...)
		} else {
			out = append(out, changed(e, func(e *api.Entry) { e.Family = "" })...)
		}
	}
	for _, e := range []api.Entry{axiom(), ind(), rec()} {
		out = append(out, changed(e, func(e *api.Entry) { e.Value = nat })...)
	}
	for _, kind := range []int{api.DDef, api.DThm, api.DOpaque} {
		out = append(out, changed(def(kind), func(e *api.Entry) { e.Value = api.Term{} }, func(e *api.Entry) { e.Value = term.Sort(level.Param(2)) }, func(e *api.Entry) { e.Fixed = 1 })...)
	}
	out = append(out, changed(ctor(), func(e *api.Entry) { e.Value = term.Sort(level.Param(2)) }, func(e *api.Entry) { e.Params, e.Value = 4, term.Sort(level.Param(4)) })...)
	return append(out, changed(def(api.DDef), func(e *api.Entry) { e.Height = 0 })...)
}

func TestP11_1Right(t *testing.T) {
	for i, e := range all() {
		if !Right(e) {
			t.Error(i)
		}
	}
	for i, e := range wrongEntries() {
		if Right(e) {
			t.Error(i, e)
		}
	}
	bare := ctor()
	bare.Value = api.Term{}
	four := ctor()
	four.Params, four.Value = 4, term.Sort(level.Param(3))
	high := def(api.DDef)
	high.Height = 1 << 20
	none := ind()
	none.Ctors = []string{}
	eight := rec()
	eight.Ctors = strings.Split("abcdefgh", "")
	for i, e := range []api.Entry{bare, four, high, none, eight} {
		if !Right(e) {
			t.Error(i, e)
		}
	}
}

func TestP11_1Plain(t *testing.T) {
	d := api.Decl{Kind: api.DDef, Name: "d", Params: 2, Type: term.Sort(v), Value: term.Const("a", u)}
	for _, h := range []int{1, 7, 1 << 20} {
		want := def(api.DDef)
		want.Height = h
		if e, err := Plain(d, h); err != api.OK || !reflect.DeepEqual(e, want) {
			t.Error(e, err)
		}
	}
	for _, h := range []int{0, -1, 1<<20 + 1, math.MinInt, math.MaxInt} {
		if e, err := Plain(d, h); err != api.ErrRange || !reflect.DeepEqual(e, api.Entry{}) {
			t.Error(h, e, err)
		}
		for _, kind := range []int{api.DThm, api.DOpaque} {
			k := d
			k.Kind = kind
			if e, err := Plain(k, h); err != api.OK || !reflect.DeepEqual(e, def(kind)) {
				t.Error(e, err)
			}
		}
	}
	if e, err := Plain(api.Decl{Kind: api.DAxiom, Name: "a", Params: 1, Type: term.Sort(u)}, 0); err != api.OK || !reflect.DeepEqual(e, axiom()) {
		t.Error(e, err)
	}
	for _, w := range []api.Decl{{}, {Kind: api.DInd, Name: "n", Type: nat}, {Kind: api.DDef, Name: "d", Type: nat}, {Kind: api.DAxiom, Name: "a", Type: term.Var(0)}} {
		if e, err := Plain(w, -1); err != api.ErrForm || !reflect.DeepEqual(e, api.Entry{}) {
			t.Error(w, err)
		}
	}
}

func TestP11_2TypeValue(t *testing.T) {
	two := []api.Level{level.Num(3), level.Succ(u)}
	tall := level.Num(0)
	for range 63 {
		tall = level.Succ(tall)
	}
	deep := def(api.DDef)
	deep.Type, deep.Value = term.Sort(level.Succ(u)), term.Sort(level.Succ(v))
	for i, c := range []struct {
		e          api.Entry
		levels     []api.Level
		typ, value api.Term
		err, verr  api.Errno
	}{
		{axiom(), two[:1], term.Sort(level.Num(3)), api.Term{}, api.OK, api.ErrNone}, {def(api.DDef), two, term.Sort(level.Succ(u)), term.Const("a", level.Num(3)), api.OK, api.OK}, {def(api.DThm), two, term.Sort(level.Succ(u)), api.Term{}, api.OK, api.ErrNone},
		{ctor(), two[:1], term.Sort(level.Num(3)), api.Term{}, api.OK, api.ErrNone}, {def(api.DDef), two[:1], api.Term{}, api.Term{}, api.ErrLevel, api.ErrLevel}, {def(api.DDef), nil, api.Term{}, api.Term{}, api.ErrLevel, api.ErrLevel}, {def(api.DDef), []api.Level{u, level.Param(4)}, api.Term{}, api.Term{}, api.ErrLevel, api.ErrLevel},
		{deep, []api.Level{tall, u}, api.Term{}, term.Sort(level.Succ(u)), api.ErrMany, api.OK}, {deep, []api.Level{u, tall}, term.Sort(level.Succ(u)), api.Term{}, api.OK, api.ErrMany}, {ind(), nil, nat, api.Term{}, api.OK, api.ErrNone}, {ind(), two, api.Term{}, api.Term{}, api.ErrLevel, api.ErrNone},
	} {
		if got, err := Type(c.e, c.levels); err != c.err || !reflect.DeepEqual(got, c.typ) {
			t.Error(i, got, err)
		}
		if got, err := Value(c.e, c.levels); err != c.verr || !reflect.DeepEqual(got, c.value) {
			t.Error(i, got, err)
		}
	}
	for i, e := range wrongEntries() {
		_, err := Type(e, nil)
		_, verr := Value(e, nil)
		if err != api.ErrForm || verr != api.ErrForm || Unfolds(e) {
			t.Error(i, err, verr)
		}
	}
	for _, e := range all() {
		if Unfolds(e) != (e.Kind == api.DDef) {
			t.Error(e)
		}
	}
}

func TestP11_2Same(t *testing.T) {
	list := append(all(), wrongEntries()[:60]...)
	for i, a := range list {
		for j, b := range list {
			if Same(a, b) != reflect.DeepEqual(a, b) || !Same(a, Clone(a)) {
				t.Error(i, j)
			}
		}
	}
	for _, e := range all() {
		for _, o := range changed(e, func(e *api.Entry) { e.Kind++ }, func(e *api.Entry) { e.Params++ }, func(e *api.Entry) { e.Name += "x" }, func(e *api.Entry) { e.Type = term.Var(1) }, func(e *api.Entry) { e.Value = term.Var(1) }, func(e *api.Entry) { e.Height++ }, func(e *api.Entry) { e.Family += "x" }, func(e *api.Entry) { e.Fixed++ }, func(e *api.Entry) { e.Index++ }, func(e *api.Entry) { e.Fields++ }, func(e *api.Entry) { e.Ctors = append(e.Ctors, "x") }) {
			if Same(e, o) || Same(o, e) {
				t.Error(e, o)
			}
		}
	}
	empty := axiom()
	empty.Ctors, empty.Value.Args = []string{}, []api.Term{}
	if !Same(axiom(), empty) {
		t.Error("a nil list and an empty one are the same")
	}
}

func TestP11_3NewMemory(t *testing.T) {
	deep := def(api.DDef)
	deep.Type, deep.Value = term.Pi(nat, nat), term.Lam(nat, nat)
	levels := []api.Level{level.Succ(u), level.Succ(u)}
	typ, _ := Type(deep, levels)
	value, _ := Value(deep, levels)
	copied := Clone(deep)
	plain, _ := Plain(api.Decl{Kind: api.DDef, Name: "d", Params: 2, Type: deep.Type, Value: deep.Value}, 1)
	for _, x := range []api.Term{typ, value, copied.Type, copied.Value, plain.Type, plain.Value} {
		x.Args[0].Name = "changed"
	}
	c := Clone(ind())
	c.Ctors[0] = "changed"
	if !term.Same(deep.Type, term.Pi(nat, nat)) || !term.Same(deep.Value, term.Lam(nat, nat)) || ind().Ctors[0] != "n.z" {
		t.Error("changed")
	}
}
