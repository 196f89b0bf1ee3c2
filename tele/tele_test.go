package tele

import (
	"math"
	"reflect"
	"slices"
	"strconv"
	"strings"
	"testing"

	"scholium/api"
	"scholium/sample"
	"scholium/term"
	"scholium/text"
)

// tower: so many binders over nat.
func tower(n int) api.Term {
	t := term.Const("nat")
	for range n {
		t = api.Term{Kind: api.TPi, Args: []api.Term{term.Const("nat"), t}}
	}
	return t
}

var wrong = []api.Term{{}, term.Var(-1), term.Var(1 << 50), term.Const("A"), term.Pi(api.Term{}, term.Const("nat")), tower(1000)}

func texts(list []api.Term) []string {
	var out []string
	for _, t := range list {
		out = append(out, text.Term(t))
	}
	return out
}

func shown(list []Local) []string {
	var out []string
	for _, l := range list {
		out = append(out, l.Name+":"+text.Term(l.Type))
	}
	return out
}

func TestP17_1CountSplit(t *testing.T) {
	in := sample.Term("(> nat (> (q #0) (\\ (p #1) (> a #9))))")
	if Count(in, api.TPi) != 2 || Count(in, api.TLam) != 0 || Count(sample.Term("(\\ nat (\\ nat (> nat nat)))"), api.TLam) != 2 || Count(sample.Term("nat"), api.TPi) != 0 || Count(tower(999), api.TPi) != 999 {
		t.Error("count")
	}
	for i, c := range []struct {
		n     int
		types []string
		rest  string
	}{{0, nil, "(> nat (> (q #0) (\\ (p #1) (> a #9))))"}, {1, []string{"nat"}, "(> (q #0) (\\ (p #1) (> a #9)))"}, {2, []string{"nat", "(q #0)"}, "(\\ (p #1) (> a #9))"}} {
		types, rest, ok := Split(in, api.TPi, c.n)
		if !ok || !slices.Equal(texts(types), c.types) || text.Term(rest) != c.rest {
			t.Error(i, texts(types), text.Term(rest), ok)
		}
	}
	for i, n := range []int{3, -1, math.MinInt, math.MaxInt} {
		if types, rest, ok := Split(in, api.TPi, n); ok || len(types) != 0 || !reflect.DeepEqual(rest, api.Term{}) {
			t.Error(i)
		}
	}
}

func TestP17_1Wrong(t *testing.T) {
	nat := term.Const("nat")
	for i, x := range wrong {
		_, _, split := Split(x, api.TPi, 0)
		_, _, open := Open(x, api.TPi)
		_, closed := Close(api.TPi, x)
		_, local := Close(api.TPi, nat, Local{"a", nat}, Local{"b", x})
		_, apply := Apply(x)
		_, arg := Apply(tower(2), nat, x)
		if Count(x, api.TPi) != 0 || split || open || closed || local || apply || arg {
			t.Error(i)
		}
	}
	for _, kind := range []int{0, api.TVar, api.TSort, api.TConst, api.TApp, api.TLet, 8, -1} {
		_, _, split := Split(nat, kind, 0)
		_, _, open := Open(nat, kind)
		_, closed := Close(kind, nat)
		if Count(sample.Term("(= nat nat nat)"), kind) != 0 || split || open || closed {
			t.Error(kind)
		}
	}
}

func TestP17_2Open(t *testing.T) {
	for i, c := range []struct {
		in     string
		kind   int
		names  []string
		locals []string
		body   string
	}{
		{"(> nat (q #0))", api.TPi, []string{"a"}, []string{"a:nat"}, "(q a)"}, {"(> nat (> (q #0 #5) (f #0 #1 #2 #7)))", api.TPi, []string{"a", "b.c"}, []string{"a:nat", "b.c:(q a #4)"}, "(f b.c a #0 #5)"}, {"(\\ #0 (\\ #1 #2))", api.TLam, []string{"a"}, []string{"a:#0"}, "(\\ #0 #1)"}, {"nat", api.TLam, nil, nil, "nat"}, {"(> nat (> (q #0) (r #0 #1)))", api.TPi, []string{"a", "a"}, []string{"a:nat", "a:(q a)"}, "(r a a)"},
	} {
		locals, body, ok := Open(sample.Term(c.in), c.kind, c.names...)
		if !ok || !slices.Equal(shown(locals), c.locals) || text.Term(body) != c.body {
			t.Error(i, shown(locals), text.Term(body), ok)
		}
	}
	for i, c := range []struct {
		kind  int
		names []string
	}{{api.TPi, []string{"a", "b", "c"}}, {api.TLam, []string{"a"}}, {api.TPi, []string{"a", ""}}, {api.TPi, []string{"A"}}, {api.TPi, []string{"a", strings.Repeat("a", 41)}}} {
		if locals, body, ok := Open(sample.Term("(> nat (> nat nat))"), c.kind, c.names...); ok || len(locals) != 0 || body.Kind != 0 {
			t.Error(i)
		}
	}
}

func TestP17_2Close(t *testing.T) {
	l := func(name, typ string) Local { return Local{name, sample.Term(typ)} }
	for i, c := range []struct {
		body   string
		locals []Local
		want   string
	}{
		{"(q a)", []Local{l("a", "nat")}, "(> nat (q #0))"}, {"(f b a #0 c)", []Local{l("a", "nat"), l("b", "(q a #4)")}, "(> nat (> (q #0 #5) (f #0 #1 #2 c)))"}, {"nat", nil, "nat"}, {"(a (@ b u0))", []Local{l("a", "b"), l("b", "a")}, "(> b (> #0 (#1 #0)))"}, {"(a b)", []Local{l("a", "nat"), l("b", "a"), l("a", "(q a b)")}, "(> nat (> #0 (> (q #1 #0) (#2 #1))))"}, {"a", []Local{l("A", "nat"), l("", "nat")}, "(> nat (> nat a))"},
	} {
		if got, ok := Close(api.TPi, sample.Term(c.body), c.locals...); !ok || text.Term(got) != c.want {
			t.Error(i, text.Term(got), ok)
		}
		got, ok := Close(api.TLam, sample.Term(c.body), c.locals...)
		if !ok || text.Term(got) != strings.ReplaceAll(c.want, ">", "\\") {
			t.Error(i, text.Term(got), ok)
		}
	}
	if got, ok := Close(api.TPi, tower(998), l("a", "nat")); !ok || term.Nodes(got) != 1999 {
		t.Error(ok)
	}
	if got, ok := Close(api.TPi, tower(998), l("a", "(* 0)")); !ok || term.Nodes(got) != 2000 {
		t.Error("2000 nodes", ok)
	}
	if got, ok := Close(api.TPi, tower(998), l("a", "nat"), l("b", "nat")); ok || got.Kind != 0 {
		t.Error("2001 nodes")
	}
	for n, want := range map[int]bool{999: true, 1000: false, 1 << 20: false} {
		if _, ok := Close(api.TLam, term.Const("nat"), slices.Repeat([]Local{l("a", "nat")}, n)...); ok != want {
			t.Error(n, ok)
		}
	}
}

func TestP17_3ApplyConsts(t *testing.T) {
	in := sample.Term("(> nat (> (q #0) (f #0 #1 #2)))")
	for i, c := range []struct {
		args []string
		want string
	}{{nil, text.Term(in)}, {[]string{"a"}, "(> (q a) (f #0 a #1))"}, {[]string{"a", "(g #3)"}, "(f (g #3) a #0)"}} {
		if got, ok := Apply(in, sample.Terms(c.args...)...); !ok || text.Term(got) != c.want {
			t.Error(i, text.Term(got), ok)
		}
	}
	if _, ok := Apply(in, sample.Terms("a", "b", "c")...); ok {
		t.Error("too many")
	}
	if _, ok := Apply(sample.Term("(\\ nat #0)"), term.Const("a")); ok {
		t.Error("a function is no type of functions")
	}
	wide := sample.Term("(> nat (#0 #0 #0))")
	if got, ok := Apply(wide, tower(400)); ok || got.Kind != 0 {
		t.Error("many nodes")
	}
	if got := texts(Consts([]Local{{"a", tower(1)}, {"b.c", api.Term{}}})); !slices.Equal(got, []string{"a", "b.c"}) || len(Consts(nil)) != 0 {
		t.Error(got)
	}
}

func TestP17_3Names(t *testing.T) {
	for i, c := range []struct {
		n     int
		terms []string
		want  []string
	}{
		{2, nil, []string{"l0.x0", "l0.x1"}}, {1, []string{"(l0.x l2)"}, []string{"l1.x0"}}, {1, []string{"l0", "(f (@ l1.y.z u0))"}, []string{"l2.x0"}}, {1, []string{"l00", "l0_.x", "l", "al0"}, []string{"l0.x0"}}, {1, []string{"l1"}, []string{"l0.x0"}}, {0, nil, nil}, {-1, nil, nil}, {201, nil, nil}, {math.MinInt, nil, nil},
	} {
		if got := Names(c.n, sample.Terms(c.terms...)...); !slices.Equal(got, c.want) {
			t.Error(i, got)
		}
	}
	var terms []api.Term
	for k := range 12 {
		terms = append(terms, term.Const("l"+strconv.Itoa(k)+".a"))
	}
	if got := Names(200, terms...); len(got) != 200 || got[199] != "l12.x199" {
		t.Error(got)
	}
	if got := Names(1, term.App(term.Const("l0"), api.Term{})); !slices.Equal(got, []string{"l0.x0"}) {
		t.Error("a term that isn't right has no constants", got)
	}
}

func TestP17_4AsItWas(t *testing.T) {
	for i, s := range []string{"(> nat (> (q #0 #5) (> (l0.x0 #1) (f #0 #1 #2 #7))))", "(> l0 (> l1.z (> #0 (> #1 #2))))", "(> (* u0) (> #0 (> #1 (@ c u1))))"} {
		in := sample.Term(s)
		for n := 0; n <= Count(in, api.TPi); n++ {
			names := Names(n, in)
			locals, body, ok := Open(in, api.TPi, names...)
			back, cok := Close(api.TPi, body, locals...)
			if !ok || !cok || !term.Same(back, in) {
				t.Error(i, n, text.Term(back))
			}
			applied, ok := Apply(in, Consts(locals)...)
			if !ok || !term.Same(applied, body) {
				t.Error(i, n, text.Term(applied))
			}
		}
	}
}

func TestP17_4NewMemory(t *testing.T) {
	const s = "(> (q a) (> (q #0) (f #0 #1)))"
	in := sample.Term(s)
	types, rest, _ := Split(in, api.TPi, 1)
	locals, body, _ := Open(in, api.TPi, "x")
	closed, _ := Close(api.TPi, in, Local{"q", in}, Local{"f", in})
	applied, _ := Apply(in)
	for _, x := range append(types, rest, body, applied, locals[0].Type, closed.Args[0]) {
		spoil(x)
	}
	if text.Term(in) != s || text.Term(closed.Args[1].Args[0]) == "" || strings.Count(text.Term(closed.Args[1]), "a") == 0 {
		t.Error("changed")
	}
}

func spoil(t api.Term) {
	for i := range t.Args {
		spoil(t.Args[i])
		t.Args[i].Kind = 99
	}
}
