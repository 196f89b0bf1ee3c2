package induct

import (
	"math"
	"reflect"
	"slices"
	"strings"
	"testing"

	"scholium/api"
	"scholium/decl"
	"scholium/env"
	"scholium/infer"
	"scholium/recur"
	"scholium/sample"
	"scholium/term"
	"scholium/whnf"
)

const big = api.MaxFuel

func world(t *testing.T) *env.Env {
	t.Helper()
	e := sample.Entry
	v, err := env.New().Add(append(sample.NatEntries(), e("p", 0, "(* 0)", ""), e("num", 0, "(* 1)", "nat"), e("num.rec", 0, "nat", ""), e("type", 0, "(* 2)", "(* 1)"))...)
	if err != api.OK {
		t.Fatal(err)
	}
	return v
}

func eq() api.Decl {
	return sample.Ind("eq", 1, 2, "(> (* u0) (> #0 (> #1 (* 0))))", "eq.refl", "(> (* u0) (> #0 ((@ eq u0) #1 #0 #0)))")
}

func acc() api.Decl {
	return sample.Ind("acc", 0, 1, "(> (> nat (> nat (* 0))) (> nat (* 0)))", "acc.i", "(> (> nat (> nat (* 0))) (> nat (> (> nat (> (#2 #0 #1) (acc #3 #1))) (acc #2 #1))))")
}

func TestP20_1Large(t *testing.T) {
	for i, c := range []struct {
		d    api.Decl
		want bool
	}{
		{sample.Ind("b", 0, 0, "(* 1)", "b.t", "b", "b.f", "b"), true}, {sample.Ind("b", 0, 0, "(* 0)", "b.t", "b", "b.f", "b"), false}, {sample.Ind("void", 0, 0, "(* 0)"), true}, {sample.Ind("unit", 0, 0, "(* 0)", "unit.i", "unit"), true}, {sample.Ind("and", 0, 2, "(> (* 0) (> (* 0) (* 0)))", "and.i", "(> (* 0) (> (* 0) (> #1 (> #1 (and #3 #2)))))"), true}, {sample.Ind("box", 0, 0, "(* 0)", "box.i", "(> nat box)"), false},
		{eq(), true}, {acc(), true}, {sample.Ind("ex", 0, 1, "(> (> nat (* 0)) (* 0))", "ex.i", "(> (> nat (* 0)) (> nat (> (#1 #0) (ex #2))))"), false}, {sample.Ind("is", 0, 0, "(> nat (* 0))", "is.i", "(> nat (is #0))"), true}, {sample.Ind("is", 0, 0, "(> nat (* 0))", "is.i", "(> nat (is (nat.s #0)))"), false}, {sample.Ind("is", 0, 0, "(> nat (> nat (* 0)))", "is.i", "(> nat (> nat (is #0 #0)))"), false}, {sample.Ind("is", 0, 0, "(> nat (> nat (* 0)))", "is.i", "(> nat (> nat (is #0 #1)))"), true},
		{sample.Ind("any", 1, 1, "(> (* u0) (* u0))", "any.i", "(> (* u0) (> #0 (any #1)))"), false}, {sample.Ind("any", 1, 1, "(> (* u0) (* u0))"), true}, {sample.Ind("any", 1, 0, "(* u0)", "any.i", "(@ any u0)"), true}, {sample.Ind("any", 1, 0, "(* u0)", "any.i", "(@ any u0)", "any.j", "(@ any u0)"), false}, {sample.Ind("any", 1, 0, "(* (+ u0))", "any.i", "(@ any u0)", "any.j", "(@ any u0)"), true},
	} {
		if c.d.Name == "any" && len(c.d.Ctors) == 1 && c.d.Fixed == 1 {
			c.d.Ctors[0].Type = sample.Term("(> (* u0) (> #0 ((@ any u0) #1)))")
		}
		v := world(t)
		got, ticks, err := Large(v, c.d, big)
		list, also, lerr := Entries(v, c.d, big)
		want, _ := recur.Entries(c.d, c.want)
		if got != c.want || err != api.OK || lerr != api.OK || ticks != also || !slices.EqualFunc(list, want, decl.Same) {
			t.Error(i, got, err)
		}
	}
}

func TestP20_1Errors(t *testing.T) {
	arms := strings.Repeat("(> nat ", 60) + "f" + strings.Repeat(")", 60)
	for i, c := range []struct {
		d    api.Decl
		fuel int
		err  api.Errno
		used int
	}{
		{sample.Nat(), -1, api.ErrRange, 0}, {api.Decl{}, big + 1, api.ErrRange, 0}, {api.Decl{}, math.MinInt, api.ErrRange, 0}, {api.Decl{}, 5, api.ErrForm, 0}, {sample.Axiom("a", 0, "nat"), 5, api.ErrForm, 0}, {sample.Ind("nat", 0, 0, "nat"), 5, api.ErrSort, 0}, {sample.Ind("nat", 0, 0, "(* 1)", "a", "(> (> nat p) nat)"), 5, api.ErrPositive, 0}, {sample.Ind("f", 4, 0, "(* 1)"), 5, api.ErrMany, 0},
		{sample.Nat(), big, api.ErrThere, 0}, {sample.Ind("f", 0, 0, "(* 1)", "p", "f"), 0, api.ErrThere, 0}, {sample.Ind("f", 0, 0, "(* 1)", "f.c", "f", "nat.z", "f"), big, api.ErrThere, 0}, {sample.Ind("num2", 0, 0, "(* 1)"), big, 0, -1},
		{sample.Ind("f", 0, 0, "(> unknown (* 1))"), big, api.ErrNone, 3}, {sample.Ind("f", 0, 0, "(> nat.z (* 1))", "f.c", "(f unknown)"), big, api.ErrSort, 3}, {sample.Ind("f", 0, 0, "(* 1)"), 1, api.ErrFuel, 1}, {sample.Ind("f", 0, 0, "(* 1)"), 2, 0, 2}, {sample.Ind("f", 0, 0, "(* 1)", "f.c", "f"), 3, api.ErrFuel, 3}, {sample.Ind("f", 0, 0, "(* 1)", "f.c", "f"), 4, 0, 4},
		{sample.Ind("f", 0, 0, "(> nat (* 1))", "f.c", "(f p)"), big, api.ErrType, -1}, {sample.Ind("f", 0, 0, "(* 1)", "f.c", "(> f.d f)", "f.d", "f"), big, api.ErrNone, -1}, {sample.Ind("f", 0, 1, "(> nat (* 1))", "f.c", "(> p (f #0))"), big, api.ErrType, -1}, {sample.Ind("f", 0, 1, "(> nat (* 1))", "f.c", "(> num (f #0))"), big, 0, -1}, {sample.Ind("f", 0, 1, "(> (* 1) (* 1))", "f.c", "(> (* 0) (f #0))"), big, api.ErrType, -1},
		{sample.Ind("f", 0, 2, "(> (* 0) (> (* 0) (* 1)))", "f.c", "(> (* 0) (> (* 0) (> (* 0) (f #2 #1))))"), big, 0, -1}, {sample.Ind("f", 0, 0, "(* 1)", "f.c", "(> (* 1) f)"), big, api.ErrLevel, -1}, {sample.Ind("f", 0, 0, "(* 2)", "f.c", "(> (* 1) f)"), big, 0, -1}, {sample.Ind("f", 0, 0, "(* 1)", "f.c", "(> nat (> type f))"), big, api.ErrLevel, -1}, {sample.Ind("f", 0, 0, "(* 0)", "f.c", "(> (* 1) f)"), big, 0, -1}, {sample.Ind("f", 1, 0, "(* u0)", "f.c", "(> nat (@ f u0))"), big, api.ErrLevel, -1}, {sample.Ind("f", 1, 0, "(* (| 1 u0))", "f.c", "(> nat (@ f u0))"), big, 0, -1},
		{sample.Ind("f", 1, 1, "(> (* u0) (* 1))", "f.c", "(> (* u0) (> #0 ((@ f u0) #1)))"), big, api.ErrLevel, -1}, {sample.Ind("f", 0, 0, "(* 1)", "f.c", "(> "+arms+" (> "+arms+" (> "+arms+" (> "+arms+" (> "+arms+" f)))))"), big, api.ErrMany, -1},
	} {
		v := world(t)
		list, used, err := Entries(v, c.d, c.fuel)
		if err != c.err || c.used >= 0 && used != c.used || err != api.OK && len(list) != 0 || used > max(c.fuel, 0) {
			t.Error(i, used, err)
		}
		large, lused, lerr := Large(v, c.d, c.fuel)
		out, aused, aerr := Add(v, c.d, c.fuel)
		if lerr != err || lused != used || aerr != err || aused != used || err != api.OK && (large || out != nil) {
			t.Error(i, lerr, aerr)
		}
		if err == api.OK && (out.Len() != v.Len()+len(list) || out.Order()[v.Len()] != c.d.Name) {
			t.Error(i, out.Order())
		}
	}
}

// TestP20_1Order: which error is told, where several apply.
func TestP20_1Order(t *testing.T) {
	for i, c := range []struct {
		d   api.Decl
		err api.Errno
	}{
		{sample.Ind("f", 0, 1, "(> nat (* 1))", "f.a", "(> p (> (* 1) (f #1)))"), api.ErrType}, {sample.Ind("f", 0, 1, "(> nat (* 1))", "f.a", "(> nat (> (* 1) (f #1)))", "f.b", "(> p (f #0))"), api.ErrLevel}, {sample.Ind("f", 0, 0, "(* 1)", "f.a", "(> (* 1) (> unknown f))"), api.ErrNone}, {sample.Ind("f", 0, 0, "(* 1)", "f.a", "(> (* 1) f)", "f.b", "(> unknown f)"), api.ErrLevel},
	} {
		if _, _, err := Entries(world(t), c.d, big); err != c.err {
			t.Error(i, err)
		}
	}
}

func admitted() []api.Decl {
	return []api.Decl{eq(), acc(), sample.Ind("b", 0, 0, "(* 1)", "b.t", "b", "b.f", "b"), sample.Ind("list", 1, 1, "(> (* (+ u0)) (* (+ u0)))", "list.nil", "(> (* (+ u0)) ((@ list u0) #0))", "list.cons", "(> (* (+ u0)) (> #0 (> ((@ list u0) #1) ((@ list u0) #2))))"), sample.Ind("ex", 0, 1, "(> (> nat (* 0)) (* 0))", "ex.i", "(> (> nat (* 0)) (> nat (> (#1 #0) (ex #2))))"), sample.Ind("tree", 0, 0, "(* 1)", "tree.n", "(> (> nat tree) tree)"), sample.Ind("void", 0, 0, "(* 0)")}
}

func TestP20_2Ticks(t *testing.T) {
	v := world(t)
	for i, d := range admitted() {
		_, used, err := Entries(v, d, big)
		if err != api.OK {
			t.Fatal(i, err)
		}
		for n := range used + 3 {
			if _, ticks, err := Entries(v, d, n); n < used && (err != api.ErrFuel || ticks != n) || n >= used && (err != api.OK || ticks != used) {
				t.Error(i, n, ticks, err)
			}
		}
	}
}

func TestP20_2Typed(t *testing.T) {
	for i, d := range admitted() {
		v := world(t)
		list, _, err := Entries(v, d, big)
		out, _, aerr := Add(v, d, big)
		if err != api.OK || aerr != api.OK {
			t.Fatal(i, err, aerr)
		}
		run, _ := whnf.New(out, big)
		for _, e := range list {
			if _, err := infer.New(run).Sort(nil, e.Type); err != api.OK {
				t.Error(i, e.Name, err)
			}
			if got, ok := out.Get(e.Name); !ok || !decl.Same(got, e) {
				t.Error(i, e.Name)
			}
		}
	}
	v, _, _ := Add(env.New(), sample.Nat(), big)
	run, _ := whnf.New(v, big)
	got, err := run.Nf(term.App(sample.Add().Value, sample.Term(sample.Num(2)), sample.Term(sample.Num(3))))
	if err != api.OK || !term.Same(got, sample.Term(sample.Num(5))) {
		t.Error(got, err)
	}
}

func TestP20_2Kept(t *testing.T) {
	d := acc()
	v := world(t)
	list, _, _ := Entries(v, d, big)
	for _, e := range list {
		for i := range e.Type.Args {
			e.Type.Args[i].Kind = 99
		}
	}
	if !reflect.DeepEqual(d, acc()) || v.Len() != world(t).Len() {
		t.Error("changed")
	}
}
