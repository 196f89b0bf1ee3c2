package env

import (
	"reflect"
	"slices"
	"testing"

	"scholium/api"
	"scholium/decl"
	"scholium/level"
	"scholium/term"
)

var (
	u    = level.Param(0)
	prop = term.Sort(level.Num(0))
)

func axiom(name string) api.Entry { return api.Entry{Kind: api.DAxiom, Name: name, Type: prop} }

func def(name string, height int) api.Entry {
	return api.Entry{Kind: api.DDef, Name: name, Params: 1, Type: term.Sort(u), Value: term.Const("a", u), Height: height}
}

func added(t *testing.T, v *Env, list ...api.Entry) *Env {
	t.Helper()
	out, err := v.Add(list...)
	if err != api.OK || out == nil {
		t.Fatal(err)
	}
	return out
}

func TestP12_1Add(t *testing.T) {
	v := added(t, New(), axiom("b"), axiom("a"))
	w := added(t, v, def("c", 3))
	if !slices.Equal(w.Order(), []string{"b", "a", "c"}) || !slices.Equal(w.Names(), []string{"a", "b", "c"}) || w.Len() != 3 || v.Len() != 2 {
		t.Error(w.Order(), w.Names())
	}
	if same := added(t, v); !slices.Equal(same.Order(), v.Order()) {
		t.Error("of none")
	}
	wrong := axiom("A")
	for i, c := range []struct {
		list []api.Entry
		err  api.Errno
	}{{[]api.Entry{wrong}, api.ErrForm}, {[]api.Entry{axiom("a")}, api.ErrThere}, {[]api.Entry{axiom("x"), axiom("x")}, api.ErrThere}, {[]api.Entry{axiom("x"), axiom("b"), wrong}, api.ErrThere}, {[]api.Entry{axiom("x"), wrong, axiom("b")}, api.ErrForm}, {[]api.Entry{{}}, api.ErrForm}, {[]api.Entry{def("a", 0)}, api.ErrForm}} {
		if out, err := v.Add(c.list...); out != nil || err != c.err {
			t.Error(i, err)
		}
	}
	if !slices.Equal(v.Order(), []string{"b", "a"}) {
		t.Error(v.Order())
	}
}

func TestP12_2Told(t *testing.T) {
	v := added(t, New(), axiom("a"), def("d", 2))
	if e, ok := v.Get("d"); !ok || !decl.Same(e, def("d", 2)) {
		t.Error(e, ok)
	}
	if e, ok := v.Get("x"); ok || !reflect.DeepEqual(e, api.Entry{}) {
		t.Error(e, ok)
	}
	if v.Kind("a") != api.DAxiom || v.Kind("d") != api.DDef || v.Kind("x") != 0 || v.Kind("") != 0 {
		t.Error("kind")
	}
	two := []api.Level{level.Num(2)}
	for i, c := range []struct {
		name       string
		levels     []api.Level
		typ, value api.Term
		err, verr  api.Errno
	}{{"a", nil, prop, api.Term{}, api.OK, api.ErrNone}, {"d", two, term.Sort(two[0]), term.Const("a", two[0]), api.OK, api.OK}, {"d", nil, api.Term{}, api.Term{}, api.ErrLevel, api.ErrLevel}, {"x", two, api.Term{}, api.Term{}, api.ErrNone, api.ErrNone}, {"a", two, api.Term{}, api.Term{}, api.ErrLevel, api.ErrNone}} {
		if got, err := v.Type(c.name, c.levels); err != c.err || !reflect.DeepEqual(got, c.typ) {
			t.Error(i, got, err)
		}
		if got, err := v.Value(c.name, c.levels); err != c.verr || !reflect.DeepEqual(got, c.value) {
			t.Error(i, got, err)
		}
	}
	if !v.Has() || !v.Has("a") || !v.Has("d", "a", "d") || v.Has("a", "x") || v.Has("") {
		t.Error("has")
	}
	if New().Len() != 0 || len(New().Names()) != 0 || len(New().Order()) != 0 || New().Has("a") {
		t.Error("without names")
	}
}

func TestP12_3Height(t *testing.T) {
	v := added(t, New(), axiom("a"), def("d", 2), def("e", 1<<20))
	for i, c := range []struct {
		t    api.Term
		want int
	}{{term.App(term.Const("d"), term.Const("a")), 2}, {term.Const("a"), 0}, {term.Const("x"), 0}, {term.Lam(term.App(term.Const("d"), term.Const("e")), prop), 1 << 20}, {prop, 0}, {api.Term{}, 0}, {term.App(term.Const("d"), api.Term{}), 0}} {
		if got := v.Height(c.t); got != c.want {
			t.Error(i, got)
		}
	}
}

func TestP12_4ForEver(t *testing.T) {
	base := added(t, New(), axiom("a"), axiom("b"), axiom("c"))
	one := added(t, base, axiom("x"))
	two := added(t, base, axiom("y"), axiom("z"))
	three := added(t, one, axiom("y"))
	for i, c := range []struct {
		v    *Env
		want []string
	}{{base, []string{"a", "b", "c"}}, {one, []string{"a", "b", "c", "x"}}, {two, []string{"a", "b", "c", "y", "z"}}, {three, []string{"a", "b", "c", "x", "y"}}} {
		if !slices.Equal(c.v.Order(), c.want) || c.v.Len() != len(c.want) || !c.v.Has(c.want...) {
			t.Error(i, c.v.Order())
		}
	}
	if base.Has("x") || one.Has("y") || two.Has("x") {
		t.Error("an addition shows elsewhere")
	}
}

func TestP12_4NewMemory(t *testing.T) {
	e := def("d", 1)
	e.Type = term.Pi(prop, prop)
	list := []api.Entry{e}
	v := added(t, New(), list...)
	list[0].Name = "changed"
	e.Type.Args[0].Kind = 99
	got, ok := v.Get("d")
	if !ok || !term.Same(got.Type, term.Pi(prop, prop)) {
		t.Error("kept")
	}
	got.Type.Args[0].Kind = 99
	names, order := v.Names(), v.Order()
	names[0], order[0] = "changed", "changed"
	typ, _ := v.Type("d", []api.Level{u})
	typ.Args[1].Kind = 99
	if again, _ := v.Get("d"); !term.Same(again.Type, term.Pi(prop, prop)) || !v.Has("d") || v.Names()[0] != "d" || v.Order()[0] != "d" {
		t.Error("handed out")
	}
}
