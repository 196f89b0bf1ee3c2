package bind

import (
	"math"
	"math/rand"
	"reflect"
	"slices"
	"testing"

	"scholium/api"
	"scholium/level"
	"scholium/term"
)

var (
	u    = level.Param(0)
	nat  = term.Const("nat")
	f, g = term.Const("f"), term.Const("g", u)
)

func v(n int) api.Term { return term.Var(n) }

// tower: a term of n nodes, an odd number, with a loose variable 0.
func tower(n int) api.Term {
	t := v(0)
	for range n / 2 {
		t = api.Term{Kind: api.TApp, Args: []api.Term{nat, t}}
	}
	return t
}

var wrong = []api.Term{{}, term.Var(-1), term.Var(1 << 50), term.Const("A"), term.Sort(level.Param(4)), term.App(nat, api.Term{}), tower(2001)}

func is(t *testing.T, what string, got api.Term, ok bool, want api.Term) {
	t.Helper()
	if !ok || !reflect.DeepEqual(got, want) {
		t.Error(what, got, ok)
	}
}

func none(t *testing.T, what string, got api.Term, ok bool) {
	t.Helper()
	if ok || !reflect.DeepEqual(got, api.Term{}) {
		t.Error(what, got, ok)
	}
}

func TestP6_1Lift(t *testing.T) {
	in := term.Let(v(0), v(1), term.App(v(0), term.Lam(term.App(v(0), v(1), v(2), v(3)), v(2))))
	got, ok := Lift(in, 10, 1)
	is(t, "lift", got, ok, term.Let(v(0), v(11), term.App(v(0), term.Lam(term.App(v(0), v(1), v(2), v(13)), v(12)))))
	got, ok = Lift(in, 0, 0)
	is(t, "by none", got, ok, in)
	got, ok = Lift(v(1<<50-1), 1<<20, 1<<20)
	is(t, "far", got, ok, v(1<<50-1+1<<20))
	got, ok = Lift(tower(1999), 1, 0)
	if !ok || term.Nodes(got) != 1999 {
		t.Error("1999 nodes")
	}
	for _, c := range [][2]int{{-1, 0}, {0, -1}, {1<<20 + 1, 0}, {0, 1<<20 + 1}, {math.MinInt, math.MaxInt}} {
		got, ok = Lift(nat, c[0], c[1])
		none(t, "bounds", got, ok)
	}
}

func TestP6_1Lower(t *testing.T) {
	got, ok := Lower(term.Pi(term.App(v(0), v(3)), v(2)), 2)
	is(t, "lower", got, ok, term.Pi(term.App(v(0), v(1)), v(0)))
	got, ok = Lower(term.Lam(v(4), v(2)), 0)
	is(t, "by none", got, ok, term.Lam(v(4), v(2)))
	got, ok = Lift(term.Let(nat, nat, tower(1997)), 3, 0)
	if !ok || term.Nodes(got) != 2000 {
		t.Error("2000 nodes")
	}
	got, ok = Lower(v(1<<20), 1<<20)
	is(t, "most", got, ok, v(0))
	got, ok = Lower(term.Lam(v(0), nat), 5)
	is(t, "closed", got, ok, term.Lam(v(0), nat))
	for i, c := range []struct {
		t  api.Term
		by int
	}{{v(0), 1}, {term.Lam(v(1), nat), 1}, {term.Lam(v(2), v(1)), 2}, {nat, -1}, {nat, 1<<20 + 1}, {nat, math.MinInt}} {
		got, ok = Lower(c.t, c.by)
		none(t, "lower none", got, ok)
		_ = i
	}
}

func TestP6_1Wrong(t *testing.T) {
	for _, x := range wrong {
		for i, ask := range []func() (api.Term, bool){
			func() (api.Term, bool) { return Lift(x, 1, 0) }, func() (api.Term, bool) { return Lower(x, 0) }, func() (api.Term, bool) { return Inst(x, nat) }, func() (api.Term, bool) { return Inst(nat, nat, x) },
			func() (api.Term, bool) { return Replace(x, "a", nat) }, func() (api.Term, bool) { return Replace(nat, "a", x) }, func() (api.Term, bool) { return Abstract(x, "a") },
		} {
			if got, ok := ask(); ok || !reflect.DeepEqual(got, api.Term{}) {
				t.Error(i, got)
			}
		}
		if Uses(x, 0) || Count(x, 0) != 0 || Occurs(x, "nat") || Occurs(x, "A") {
			t.Error("of a wrong term")
		}
	}
}

func TestP6_2Inst(t *testing.T) {
	a, b := term.App(f, v(4)), term.Lam(v(1), v(0))
	got, ok := Inst(term.App(v(1), v(0)), a, b)
	is(t, "inst", got, ok, term.App(a, b))
	got, ok = Inst(term.Lam(term.App(v(0), v(1), v(2), v(3)), v(2)), a, b)
	is(t, "in a binder", got, ok, term.Lam(term.App(v(0), term.Lam(v(2), v(1)), term.App(f, v(5)), v(1)), v(0)))
	got, ok = Inst(term.App(v(3), nat))
	is(t, "none", got, ok, term.App(v(3), nat))
	got, ok = Inst(term.Let(v(0), v(1), v(1)), nat)
	is(t, "let", got, ok, term.Let(nat, v(0), nat))
	got, ok = Inst(term.App(v(0), v(0)), tower(999))
	if !ok || term.Nodes(got) != 1999 {
		t.Error(term.Nodes(got), ok)
	}
	got, ok = Inst(term.App(v(0), v(0)), tower(1001))
	none(t, "2003 nodes", got, ok)
	got, ok = Inst(term.App(v(0), v(0)), term.Sort(level.Max(u, u)), tower(999))
	if !ok || term.Nodes(got) != 1999 {
		t.Error("one that is not used is not counted")
	}
	wide := nat
	for range 500 {
		wide = term.App(v(0), wide)
	}
	got, ok = Inst(wide, term.Sort(level.Succ(u)))
	none(t, "levels are counted", got, ok)
}

func TestP6_3Told(t *testing.T) {
	in := term.Let(v(0), term.App(v(1), v(0), g), term.Lam(term.App(v(2), v(0), v(1), f), v(1)))
	for n, want := range []int{4, 1, 0} {
		if Count(in, n) != want || Uses(in, n) != (want > 0) {
			t.Error(n, Count(in, n))
		}
	}
	for _, n := range []int{-1, math.MinInt, math.MaxInt} {
		if Count(in, n) != 0 || Uses(in, n) {
			t.Error(n)
		}
	}
	if !Occurs(in, "f") || !Occurs(in, "g") || Occurs(in, "h") || Occurs(in, "") {
		t.Error("occurs")
	}
}

func TestP6_3ReplaceAbstract(t *testing.T) {
	in := term.Lam(term.App(g, v(0), v(1), f), g)
	got, ok := Replace(in, "g", term.App(v(0), f))
	is(t, "replace", got, ok, term.Lam(term.App(v(1), f, v(0), v(1), f), term.App(v(0), f)))
	got, ok = Replace(in, "x", nat)
	is(t, "replace none", got, ok, in)
	got, ok = Replace(term.App(f, f), "f", tower(1001))
	none(t, "many", got, ok)
	got, ok = Abstract(in, "f", "g")
	is(t, "abstract", got, ok, term.Lam(term.App(v(1), v(0), v(3), v(2)), v(0)))
	got, ok = Abstract(in, "g", "f", "g")
	is(t, "told twice", got, ok, term.Lam(term.App(v(3), v(0), v(4), v(2)), v(2)))
	got, ok = Abstract(in, "", "A")
	is(t, "no names", got, ok, term.Lam(term.App(g, v(0), v(3), f), g))
	got, ok = Abstract(in)
	is(t, "of none", got, ok, in)
	got, ok = Abstract(term.App(v(1), v(0)))
	is(t, "example", got, ok, term.App(v(1), v(0)))
}

func random(r *rand.Rand, deep, vars int) api.Term {
	k := r.Intn(9)
	if deep == 0 {
		k = r.Intn(3)
	}
	switch k {
	case 0, 1:
		return v(r.Intn(vars))
	case 2:
		return []api.Term{f, g, nat}[r.Intn(3)]
	case 3, 4, 5:
		return term.App(random(r, deep-1, vars), random(r, deep-1, vars))
	case 6:
		return term.Lam(random(r, deep-1, vars+1), random(r, deep-1, vars))
	case 7:
		return term.Pi(random(r, deep-1, vars+1), random(r, deep-1, vars))
	}
	return term.Let(random(r, deep-1, vars), random(r, deep-1, vars), random(r, deep-1, vars+1))
}

func TestP6_4Laws(t *testing.T) {
	r := rand.New(rand.NewSource(6))
	for range 2000 {
		x, a, b := random(r, 5, 4), random(r, 3, 3), random(r, 3, 3)
		up, _ := Lift(x, 1, 0)
		got, ok := Inst(up, a)
		is(t, "inst of lift", got, ok, x)
		got, ok = Lower(up, 1)
		is(t, "lower of lift", got, ok, x)
		// both at once; the variable 0 first; the variable 1 first
		both, _ := Inst(x, a, b)
		high, _ := Lift(b, 1, 0)
		inner, _ := Inst(x, high)
		got, ok = Inst(inner, a)
		is(t, "0 first", got, ok, both)
		room, _ := Lift(x, 2, 2)
		swapped, _ := Inst(room, v(0), v(1))
		inner, _ = Inst(swapped, mustLift(a, 1))
		got, ok = Inst(inner, b)
		is(t, "1 first", got, ok, both)
		names, _ := Abstract(both, "f", "g")
		if got, _ := Inst(names, f, g); !reflect.DeepEqual(got, both) {
			t.Error("abstract")
		}
		if Uses(up, 0) || Count(up, 1) != Count(x, 0) || term.Loose(both) > 3 {
			t.Error("loose variables")
		}
		if t.Failed() {
			return
		}
	}
}

func mustLift(t api.Term, by int) api.Term {
	out, _ := Lift(t, by, 0)
	return out
}

func TestP6_4NewMemory(t *testing.T) {
	in := term.Lam(term.App(v(1), v(1), g), term.Sort(level.Succ(u)))
	arg := term.Const("a", level.Succ(u))
	keep, keepArg := term.App(in), term.App(arg)
	args, names := []api.Term{arg, arg, arg}, []string{"g", "a", "b"}
	one, _ := Inst(in, args[:1]...)
	two, _ := Replace(in, "g", arg)
	three, _ := Lift(in, 1, 0)
	four, _ := Lower(in, 0)
	five, _ := Abstract(in, names[:1]...)
	for _, x := range []api.Term{one, two, three, four, five} {
		spoil(x)
	}
	if !term.Same(in, keep) || !term.Same(arg, keepArg) || !slices.Equal(names, []string{"g", "a", "b"}) || !term.Same(args[2], keepArg) {
		t.Error("changed")
	}
	one, _ = Inst(term.App(v(0), v(0)), arg)
	spoil(one.Args[0])
	if !term.Same(one.Args[1], keepArg) {
		t.Error("two lists of one answer share memory")
	}
}

func spoil(t api.Term) {
	for i := range t.Levels {
		for j := range t.Levels[i].Args {
			t.Levels[i].Args[j].Kind = 99
		}
		t.Levels[i].Kind = 99
	}
	for i := range t.Args {
		spoil(t.Args[i])
		t.Args[i].Kind = 99
	}
}
