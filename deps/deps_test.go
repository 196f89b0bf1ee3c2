package deps

import (
	"reflect"
	"slices"
	"strings"
	"testing"

	"scholium/api"
	"scholium/level"
	"scholium/term"
)

func c(names ...string) api.Term {
	out := term.Sort(level.Num(0))
	for _, n := range names {
		out = term.App(out, term.Const(n))
	}
	return out
}

func axiom(name string, needs ...string) api.Decl {
	return api.Decl{Kind: api.DAxiom, Name: name, Type: c(needs...)}
}

func nat() api.Decl {
	return api.Decl{Kind: api.DInd, Name: "n", Type: c("b", "n.rec"), Ctors: []api.Ctor{{Name: "n.z", Type: c("n", "a")}, {Name: "n.s", Type: c("n.z", "n.x", "n")}}}
}

func TestP9_1NamesNeeds(t *testing.T) {
	long := nat()
	long.Name = strings.Repeat("n", 37)
	fits := api.Decl{Kind: api.DInd, Name: strings.Repeat("n", 36)}
	odd := axiom("a", "x", "e")
	odd.Ctors = []api.Ctor{{Name: "e", Type: c("y", "a")}}
	odd.Value = api.Term{Kind: api.TApp}
	for i, k := range []struct {
		d            api.Decl
		names, needs []string
	}{
		{nat(), []string{"n", "n.z", "n.s", "n.rec"}, []string{"a", "b", "n.x"}}, {axiom("a", "b", "a", "b", "a.rec"), []string{"a"}, []string{"a.rec", "b"}},
		{api.Decl{Kind: api.DDef, Name: "d", Type: c("t"), Value: c("v", "d", "t")}, []string{"d"}, []string{"t", "v"}}, {long, []string{long.Name, "n.z", "n.s", ""}, []string{"a", "b", "n", "n.rec", "n.x"}}, {fits, []string{fits.Name, fits.Name + ".rec"}, nil},
		{api.Decl{}, []string{""}, nil}, {api.Decl{Kind: api.DInd}, []string{"", ""}, nil}, {api.Decl{Kind: api.DInd, Name: "A"}, []string{"A", ""}, nil}, {odd, []string{"a"}, []string{"e", "x", "y"}},
	} {
		if got := Names(k.d); !slices.Equal(got, k.names) {
			t.Error(i, got)
		}
		if got := Needs(k.d); !slices.Equal(got, k.needs) {
			t.Error(i, got)
		}
	}
}

func TestP9_1Clash(t *testing.T) {
	for i, k := range []struct {
		a, b []string
		want string
	}{{[]string{"x", "b", "a"}, []string{"a", "b"}, "b"}, {[]string{"", "a"}, []string{"", "a"}, "a"}, {[]string{""}, []string{""}, ""}, {[]string{"a"}, []string{"b"}, ""}, {nil, nil, ""}, {nil, []string{"a"}, ""}, {[]string{"a", "a"}, []string{"a"}, "a"}} {
		if got, ok := Clash(k.a, k.b); got != k.want || ok != (k.want != "") {
			t.Error(i, got, ok)
		}
	}
}

func TestP9_2First(t *testing.T) {
	list := []api.Decl{axiom("a"), axiom("b"), axiom("n.x"), nat(), axiom("e", "n.s", "z", "y")}
	for i, k := range []struct {
		list  []api.Decl
		known []string
		at    int
		name  string
	}{{list[:4], []string{"n.rec"}, 0, ""}, {list, nil, 4, "y"}, {list, []string{"y"}, 4, "z"}, {list, []string{"y", "z"}, 0, ""}, {list[1:], nil, 2, "a"}, {list[1:], []string{"a", "y", "z"}, 0, ""}, {nil, nil, 0, ""}, {[]api.Decl{axiom("a", "b"), axiom("b")}, nil, 0, "b"}, {[]api.Decl{axiom("a", "a")}, nil, 0, ""}} {
		at, n, ok := First(k.list, k.known...)
		if at != k.at || n != k.name || ok != (k.name != "") {
			t.Error(i, at, n, ok)
		}
	}
}

func TestP9_2Reach(t *testing.T) {
	list := []api.Decl{axiom("a", "q"), axiom("b", "a", "w"), nat(), axiom("e", "n.s"), axiom("f", "e"), axiom("loop", "pool"), axiom("pool", "loop"), axiom("e", "g"), axiom("g")}
	for i, k := range []struct{ names, want []string }{
		{[]string{"e"}, []string{"a", "b", "e", "g", "n.s"}}, {[]string{"f", "f"}, []string{"a", "b", "e", "f", "g", "n.s"}}, {[]string{"loop"}, []string{"loop", "pool"}}, {[]string{"q", "nothing", "w"}, nil}, {[]string{"n.rec"}, []string{"a", "b", "n.rec"}}, {nil, nil}, {[]string{"g", "a"}, []string{"a", "g"}},
	} {
		if got := Reach(list, k.names...); !slices.Equal(got, k.want) {
			t.Error(i, got)
		}
	}
	if len(Reach(nil, "a")) != 0 {
		t.Error("of no declarations")
	}
}

func TestP9_3NewMemory(t *testing.T) {
	list, names := []api.Decl{nat(), axiom("a"), axiom("b", "a")}, []string{"b", "n", "x", "spare"}
	Reach(list, names[:3]...)
	First(list, names[:3]...)
	Clash(names, names)
	got := Names(list[0])
	got[0] = "changed"
	need := Needs(list[0])
	need[0] = "changed"
	if !reflect.DeepEqual(list, []api.Decl{nat(), axiom("a"), axiom("b", "a")}) || !slices.Equal(names, []string{"b", "n", "x", "spare"}) {
		t.Error("changed")
	}
}
