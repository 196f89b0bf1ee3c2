package arena

import (
	"math"
	"reflect"
	"testing"

	"scholium/api"
	"scholium/level"
	"scholium/term"
)

var (
	u   = level.Param(0)
	nat = term.Const("nat")
)

func made(t *testing.T, room int) *Arena {
	t.Helper()
	a, err := New(room)
	if err != api.OK || a == nil || a.Count() != 0 {
		t.Fatal(err)
	}
	return a
}

func TestP5_1New(t *testing.T) {
	for _, n := range []int{0, -1, 1<<20 + 1, math.MaxInt, math.MinInt} {
		if a, err := New(n); a != nil || err != api.ErrRange {
			t.Error(n, err)
		}
	}
	made(t, 1)
	made(t, 1<<20)
}

func TestP5_1Hold(t *testing.T) {
	a := made(t, 100)
	for i, c := range []struct {
		t  api.Term
		id int
	}{{nat, 1}, {nat, 1}, {term.App(term.Var(0), nat), 3}, {term.Var(0), 2}, {term.Lam(term.App(term.Var(0), nat), nat), 4}, {term.Let(nat, term.Var(1), term.Var(0)), 6}, {term.Var(1), 5}, {term.Const("nat", u), 7}, {term.Const("nat", level.Succ(u)), 8}, {term.Sort(u), 9}} {
		if id, err := a.Hold(c.t); id != c.id || err != api.OK {
			t.Error(i, id, err)
		}
		if back, ok := a.Term(c.id); !ok || !term.Same(back, c.t) {
			t.Error(i, back)
		}
	}
	if a.Count() != 9 {
		t.Error(a.Count())
	}
	for _, x := range []api.Term{{}, term.Var(-1), term.Var(1 << 50), term.Const("A"), term.Sort(level.Param(4)), {Kind: api.TApp, Args: make([]api.Term, 5)}} {
		if id, err := a.Hold(x); id != 0 || err != api.ErrForm || a.Count() != 9 {
			t.Error(id, err)
		}
	}
}

func TestP5_1Full(t *testing.T) {
	a := made(t, 2)
	if id, err := a.Hold(term.App(nat, term.Var(0))); id != 0 || err != api.ErrFull || a.Count() != 2 {
		t.Error(id, err, a.Count())
	}
	if id, err := a.Hold(term.Var(0)); id != 2 || err != api.OK {
		t.Error("what was held on the way stays", id, err)
	}
	if id, err := a.Hold(term.App(term.Var(3), nat)); id != 0 || err != api.ErrFull || a.Count() != 2 {
		t.Error(id, err)
	}
}

func TestP5_2Parts(t *testing.T) {
	a := made(t, 50)
	in := term.Let(nat, term.Var(4), term.App(term.Var(0), term.Var(7)))
	id, _ := a.Hold(in)
	if a.Kind(id) != api.TLet || a.Kind(a.Arg(id, 0)) != api.TConst || a.Arg(id, 1) != 2 || a.Kind(a.Arg(id, 2)) != api.TApp || a.Loose(id) != 7 || a.Loose(a.Arg(id, 2)) != 8 {
		t.Error(a.Kind(id), a.Arg(id, 1), a.Loose(id))
	}
	for _, at := range []int{-1, 3, math.MaxInt, math.MinInt} {
		if a.Arg(id, at) != 0 || a.Arg(1, 0) != 0 {
			t.Error(at)
		}
	}
	for _, n := range []int{0, -1, a.Count() + 1, math.MaxInt, math.MinInt} {
		if back, ok := a.Term(n); ok || !reflect.DeepEqual(back, api.Term{}) || a.Kind(n) != 0 || a.Arg(n, 0) != 0 || a.Loose(n) != 0 || a.Shared(n) != 0 {
			t.Error(n)
		}
	}
}

func TestP5_2Shared(t *testing.T) {
	a := made(t, 50)
	x := term.Lam(term.Var(0), nat)
	one, _ := a.Hold(x)
	two, _ := a.Hold(term.App(x, x))
	if a.Shared(one) != 3 || a.Shared(two) != 4 || a.Count() != 4 || a.Shared(1) != 1 {
		t.Error(a.Shared(one), a.Shared(two))
	}
}

func TestP5_3OneNumber(t *testing.T) {
	a := made(t, 1000)
	list := []api.Term{term.Var(0), term.Var(1), nat, term.Const("a"), term.Const("a", u), term.Const("a", level.Num(0)), term.Const("a", u, u), term.Const("a", level.Max(u, u)), term.Const("a", level.IMax(u, u)), term.Sort(u), term.Sort(level.Succ(u)), term.App(nat, nat), term.Lam(nat, nat), term.Pi(nat, nat), term.Let(nat, nat, nat), term.App(nat, term.App(nat, nat)), term.App(nat, nat, nat)}
	ids := map[int]int{}
	for i, x := range list {
		id, err := a.Hold(x)
		if was, ok := ids[id]; ok || err != api.OK {
			t.Error(i, was)
		}
		ids[id] = i
	}
	for id, i := range ids {
		if again, _ := a.Hold(term.App(list[i])); again != id {
			t.Error(i)
		}
	}
}

func TestP5_3NewMemory(t *testing.T) {
	a := made(t, 50)
	in := term.App(term.Const("a", level.Succ(u)), nat)
	keep := term.App(in)
	id, _ := a.Hold(in)
	if !term.Same(in, keep) {
		t.Error("changed")
	}
	spoil(in)
	out, _ := a.Term(id)
	if !term.Same(out, keep) {
		t.Error("kept")
	}
	spoil(out)
	if again, _ := a.Term(id); !term.Same(again, keep) {
		t.Error("handed out")
	}
}

func spoil(t api.Term) {
	for i := range t.Levels {
		t.Levels[i].Args[0].Kind = 9
		t.Levels[i].Kind = 9
	}
	for i := range t.Args {
		spoil(t.Args[i])
		t.Args[i].Kind = 9
	}
}
