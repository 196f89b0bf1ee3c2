package term

import (
	"math"
	"reflect"
	"slices"
	"strings"
	"testing"

	"scholium/api"
	"scholium/level"
)

var (
	zero = Sort(level.Num(0))
	u    = level.Param(0)
	nat  = Const("nat")
)

// tower: a term of n nodes, an odd number.
func tower(n int) api.Term {
	t := Var(0)
	for range n / 2 {
		t = api.Term{Kind: api.TLam, Args: []api.Term{nat, t}}
	}
	return t
}

func wrongTerms() []api.Term {
	bare := func(kind, n int, name string, args ...api.Term) api.Term {
		return api.Term{Kind: kind, N: n, Name: name, Args: args}
	}
	with := func(t api.Term, levels ...api.Level) api.Term {
		t.Levels = levels
		return t
	}
	loop := bare(api.TApp, 0, "", nat, nat)
	loop.Args[0] = loop
	twice := nat
	for range 80 {
		twice = bare(api.TApp, 0, "", twice, twice)
	}
	return []api.Term{{}, bare(8, 0, ""), bare(-1, 0, ""), Var(-1), Var(math.MinInt), Var(1 << 50), Var(math.MaxInt), bare(api.TVar, 0, "a"), bare(api.TVar, 0, "", nat), with(Var(0), u),
		bare(api.TSort, 0, ""), with(zero, u, u), with(bare(api.TSort, 1, ""), u), with(bare(api.TSort, 0, "a"), u), with(bare(api.TSort, 0, "", nat), u), Sort(level.Param(4)), Sort(level.Num(101)), Sort(api.Level{}),
		Const(""), Const("A"), Const("a", u, u, u, u, u), Const("a", level.Num(-1)), bare(api.TConst, 1, "a"), bare(api.TConst, 0, "a", nat),
		bare(api.TApp, 0, ""), bare(api.TApp, 0, "", nat), bare(api.TApp, 0, "", nat, nat, nat), bare(api.TApp, 1, "", nat, nat), bare(api.TApp, 0, "a", nat, nat), with(bare(api.TApp, 0, "", nat, nat), u),
		bare(api.TLam, 0, "", nat), bare(api.TPi, 0, "", nat, nat, nat), bare(api.TLet, 0, "", nat, nat), bare(api.TLet, 3, "", nat, nat, nat), Lam(Var(-1), nat), App(nat, api.Term{}), tower(2001), loop, twice}
}

func TestP4_1Right(t *testing.T) {
	for i, x := range wrongTerms() {
		_, ok := Levels(x, []api.Level{u, u, u, u})
		_, arrow := Arrow(x)
		_, from := Arrow(nat, nat, x)
		if Right(x, 4, 1<<50) || Right(x, 4, math.MaxInt) || Loose(x) != 0 || len(Consts(x)) != 0 || ok || arrow || from {
			t.Error(i, x.Kind)
		}
	}
	for i, c := range []struct {
		t    api.Term
		n, k int
		want bool
	}{
		{Var(0), 0, 0, false}, {Var(0), 0, 1, true}, {Var(1<<50 - 1), 0, 1 << 50, true}, {Var(1<<50 - 1), 0, math.MaxInt, true}, {Var(0), 0, -1, false}, {nat, 0, -1, false}, {nat, -1, 0, false}, {nat, 5, 0, false}, {nat, 4, 0, true},
		{Lam(Var(0), nat), 0, 0, true}, {Lam(Var(1), nat), 0, 0, false}, {Lam(nat, Var(0)), 0, 0, false}, {Pi(Var(1), nat, Var(0)), 0, 0, true}, {Pi(Var(2), nat, Var(0)), 0, 0, false},
		{Let(nat, nat, Var(0)), 0, 0, true}, {Let(nat, Var(0), nat), 0, 0, false}, {Let(Var(0), nat, nat), 0, 0, false}, {App(Var(0), Var(1)), 0, 1, false}, {Lam(Var(1<<50), nat), 0, 1 << 50, true},
		{Sort(u), 0, 0, false}, {Sort(u), 1, 0, true}, {Const("a.b", u, level.Param(1), u, u), 2, 0, true}, {Const("a.b", u, level.Param(1)), 1, 0, false}, {tower(1999), 0, 0, true},
		{api.Term{Kind: api.TVar, Levels: []api.Level{}, Args: []api.Term{}}, 0, 1, true},
	} {
		if Right(c.t, c.n, c.k) != c.want {
			t.Error(i, c.want)
		}
	}
}

func TestP4_1Nodes(t *testing.T) {
	long := level.Num(0)
	for range 99 {
		long = level.Succ(long)
	}
	for i, c := range []struct {
		t    api.Term
		want int
	}{{Var(3), 1}, {zero, 2}, {Const("a", u, level.Succ(u)), 4}, {App(nat, nat, nat), 5}, {Let(nat, nat, nat), 4}, {tower(1999), 1999}, {App(tower(1997), nat), 1999}, {Let(nat, nat, tower(1997)), 2000}, {tower(2001), 2001}, {tower(9001), 2001}, {Sort(long), 101}, {api.Term{}, 1}} {
		if got := Nodes(c.t); got != c.want {
			t.Error(i, got)
		}
	}
	for _, x := range wrongTerms()[len(wrongTerms())-2:] {
		if Nodes(x) != 2001 {
			t.Error("without end")
		}
	}
	if !Right(Let(nat, nat, tower(1997)), 0, 0) || Right(App(Let(nat, nat, tower(1997)), nat), 0, 0) {
		t.Error("2000 nodes are right, more aren't")
	}
}

func TestP4_1Loose(t *testing.T) {
	for i, c := range []struct {
		t    api.Term
		want int
	}{{nat, 0}, {Var(3), 4}, {Lam(Var(3), nat), 3}, {Lam(Var(0), nat), 0}, {Lam(Var(0), Var(0)), 1}, {Let(Var(1), Var(4), Var(5)), 5}, {Let(Var(1), Var(4), Var(7)), 7}, {App(Var(0), Pi(Var(5), Var(2), Var(2))), 4}, {Var(1<<50 - 1), 1 << 50}} {
		if got := Loose(c.t); got != c.want {
			t.Error(i, got)
		}
	}
}

func TestP4_1SameAndConsts(t *testing.T) {
	list := []api.Term{Var(0), Var(1), zero, Sort(u), Sort(level.Max(u, u)), nat, Const("a"), Const("nat", u), Const("nat", level.Succ(u)), Const("nat", level.Succ(level.Param(1))), Sort(level.Max(u, level.Num(0))), App(nat, Var(0)), App(Var(0), nat), App(nat, nat, nat), App(nat, App(nat, nat)), Lam(nat, nat), Pi(nat, nat), Let(nat, nat, nat), {}, {Name: "x"}}
	for i, a := range list {
		for j, b := range list {
			if Same(App(a), App(b)) != (i == j) {
				t.Error(i, j)
			}
		}
		if !Same(a, a) {
			t.Error(i)
		}
	}
	if !Same(api.Term{Kind: 1, Levels: []api.Level{}, Args: []api.Term{}}, Var(0)) {
		t.Error("a nil list and an empty one are the same")
	}
	if got := Consts(Let(Const("b"), Const("a.b", u), Lam(App(Const("a"), Const("b")), Var(0)))); !slices.Equal(got, []string{"a", "a.b", "b"}) {
		t.Error(got)
	}
	if len(Consts(zero)) != 0 {
		t.Error("none")
	}
}

func TestP4_2Levels(t *testing.T) {
	v := level.Param(1)
	got, ok := Levels(Lam(App(Const("c", v, u), Var(9)), Sort(level.Succ(u))), []api.Level{level.Num(2), level.Max(u, v)})
	if want := Lam(App(Const("c", level.Max(u, v), level.Num(2)), Var(9)), Sort(level.Succ(level.Num(2)))); !ok || !reflect.DeepEqual(got, want) {
		t.Error(got, ok)
	}
	if _, ok := Levels(nat, []api.Level{{}}); !ok {
		t.Error("no Inst, no failure")
	}
	tall := level.Num(0)
	for range 63 {
		tall = level.Succ(tall)
	}
	many := zero
	for range 31 {
		many = App(Sort(u), many)
	}
	if got, ok := Levels(many, []api.Level{level.Num(0)}); !ok || Nodes(got) != 95 {
		t.Error(Nodes(got), ok)
	}
	full := Let(nat, Sort(level.Succ(u)), tower(1995))
	if got, ok := Levels(full, []api.Level{level.Num(0)}); !ok || Nodes(got) != 2000 {
		t.Error("2000 nodes", Nodes(got), ok)
	}
	for i, c := range []struct {
		t  api.Term
		by []api.Level
	}{{full, []api.Level{level.Succ(level.Num(0))}}, {App(nat, Sort(level.Succ(u))), []api.Level{tall}}, {Sort(u), nil}, {Sort(v), []api.Level{u}}, {nat, []api.Level{u, u, u, u, u}}, {Sort(u), []api.Level{{}}}, {Sort(level.Succ(u)), []api.Level{tall}}, {Sort(level.Succ(level.Param(3))), []api.Level{u, u, u, level.Succ(tall)}}, {many, []api.Level{tall}}} {
		if got, ok := Levels(c.t, c.by); ok || !reflect.DeepEqual(got, api.Term{}) {
			t.Error(i, got, ok)
		}
	}
}

func TestP4_3SpineAndMade(t *testing.T) {
	head, args := Spine(App(nat, Var(1), App(Var(2), Var(3))))
	if !Same(head, nat) || len(args) != 2 || !Same(args[0], Var(1)) || !Same(args[1], App(Var(2), Var(3))) {
		t.Error(head, args)
	}
	odd := api.Term{Kind: api.TApp, Args: []api.Term{nat}}
	for _, x := range []api.Term{{}, odd, Lam(App(nat, nat), nat), nat} {
		if head, args := Spine(x); !Same(head, x) || len(args) != 0 {
			t.Error(x)
		}
	}
	app := func(f, a api.Term) api.Term { return api.Term{Kind: api.TApp, Args: []api.Term{f, a}} }
	pi := func(a, b api.Term) api.Term { return api.Term{Kind: api.TPi, Args: []api.Term{a, b}} }
	lam := func(a, b api.Term) api.Term { return api.Term{Kind: api.TLam, Args: []api.Term{a, b}} }
	for i, c := range []struct{ got, want api.Term }{
		{Var(-4), api.Term{Kind: api.TVar, N: -4}}, {Sort(u), api.Term{Kind: api.TSort, Levels: []api.Level{u}}}, {Const("%", u), api.Term{Kind: api.TConst, Name: "%", Levels: []api.Level{u}}}, {Const("c"), api.Term{Kind: api.TConst, Name: "c"}},
		{App(Var(0)), Var(0)}, {App(Var(0), Var(1), Var(2)), app(app(Var(0), Var(1)), Var(2))}, {Lam(Var(0)), Var(0)}, {Lam(Var(0), Var(1), Var(2)), lam(Var(1), lam(Var(2), Var(0)))},
		{Pi(Var(0), Var(1), Var(2)), pi(Var(1), pi(Var(2), Var(0)))}, {Let(Var(0), Var(1), Var(2)), api.Term{Kind: api.TLet, Args: []api.Term{Var(0), Var(1), Var(2)}}},
	} {
		if !reflect.DeepEqual(c.got, c.want) {
			t.Error(i, c.got)
		}
	}
}

func TestP4_3Arrow(t *testing.T) {
	got, ok := Arrow(App(Var(0), Lam(Var(1), Var(0))), Var(0), Lam(Var(1), Var(0)), nat)
	if want := Pi(App(Var(3), Lam(Var(4), Var(3))), Var(0), Lam(Var(2), Var(1)), nat); !ok || !reflect.DeepEqual(got, want) {
		t.Error(got, ok)
	}
	if got, ok := Arrow(Var(7)); !ok || !Same(got, Var(7)) {
		t.Error(got, ok)
	}
	if got, ok := Arrow(nat, tower(1997), nat); ok || !reflect.DeepEqual(got, api.Term{}) {
		t.Error("2001 nodes", Nodes(got))
	}
	if got, ok := Arrow(nat, tower(1997)); !ok || Nodes(got) != 1999 {
		t.Error(Nodes(got), ok)
	}
	if got, ok := Arrow(zero, tower(1997)); !ok || Nodes(got) != 2000 {
		t.Error(Nodes(got), ok)
	}
	if _, ok := Arrow(nat, slices.Repeat([]api.Term{nat}, 1<<20)...); ok {
		t.Error("many")
	}
}

func TestP4_4NewMemory(t *testing.T) {
	in := Let(Const("a", level.Succ(u)), App(Var(0), Sort(level.Succ(u))), Lam(Var(0), nat))
	keep := App(in)
	text := strings.Clone("c")
	levels := []api.Level{level.Succ(u)}
	head, args := Spine(App(in, in))
	put, _ := Levels(in, levels)
	arrow, _ := Arrow(in, in)
	made := []api.Term{App(in, in), Lam(in, in), Pi(in, in), Let(in, in, in), Const(text, levels...), Sort(levels[0]), head, put, arrow}
	for _, x := range append(made, args...) {
		spoil(x)
	}
	if !Same(in, keep) || !reflect.DeepEqual(levels, []api.Level{level.Succ(level.Param(0))}) {
		t.Error("changed")
	}
	both := App(in, in)
	spoil(both.Args[0])
	if !Same(both.Args[1], keep) {
		t.Error("two lists of one answer share memory")
	}
}

// spoil changes all that lies behind a term.
func spoil(t api.Term) {
	for i := range t.Levels {
		for j := range t.Levels[i].Args {
			t.Levels[i].Args[j].Kind = 99
		}
		t.Levels[i].Kind = 99
	}
	for i := range t.Args {
		spoil(t.Args[i])
		t.Args[i] = api.Term{Kind: 99}
	}
}
