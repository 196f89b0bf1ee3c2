package kern

import (
	"math"
	"reflect"
	"slices"
	"testing"

	"scholium/admit"
	"scholium/api"
	"scholium/decl"
	"scholium/deps"
	"scholium/env"
	"scholium/induct"
	"scholium/sample"
	"scholium/term"
	"scholium/text"
)

const big = api.MaxFuel

func ledger() []api.Decl {
	return []api.Decl{
		sample.Nat(), sample.Add(), sample.Ind("eq", 1, 2, "(> (* u0) (> #0 (> #1 (* 0))))", "eq.refl", "(> (* u0) (> #0 ((@ eq u0) #1 #0 #0)))"),
		sample.Thm("sum", 0, "((@ eq 1) nat (add "+sample.Num(2)+" "+sample.Num(2)+") "+sample.Num(4)+")", "((@ eq.refl 1) nat "+sample.Num(4)+")"), sample.Axiom("choice", 0, "(> (* 1) nat)"), sample.Opaque("o", 0, "nat", "(choice nat)"), sample.Def("d", 0, "nat", "(add nat.z nat.z)"),
	}
}

func TestP21_1Verdict(t *testing.T) {
	v := env.New()
	for i, d := range []api.Decl{sample.Nat(), sample.Add(), sample.Add(), sample.Thm("t", 0, "nat", "nat.z"), {}, sample.Ind("nat", 0, 0, "(* 1)"), sample.Ind("f", 0, 0, "nat"), sample.Axiom("a", 0, "unknown"), sample.Axiom("a", 0, "nat")} {
		for _, fuel := range []int{big, 3, 0, -1, big + 1, math.MinInt} {
			out, told := Verdict(v, d, fuel)
			want, ticks, err := admit.Add(v, d, fuel)
			if d.Kind == api.DInd {
				want, ticks, err = induct.Add(v, d, fuel)
			}
			if told != (Told{err, ticks}) || (out == nil) != (err != api.OK) || out != nil && !sameEnv(out, want) {
				t.Error(i, fuel, told, err, ticks)
			}
		}
		if out, told := Verdict(v, d, big); told.Err == api.OK {
			v = out
		}
	}
	if !slices.Equal(v.Order(), []string{"nat", "nat.z", "nat.s", "nat.rec", "add", "a"}) {
		t.Error(v.Order())
	}
}

func sameEnv(a, b *env.Env) bool {
	if !slices.Equal(a.Order(), b.Order()) {
		return false
	}
	for _, n := range a.Order() {
		x, _ := a.Get(n)
		y, _ := b.Get(n)
		if !decl.Same(x, y) {
			return false
		}
	}
	return true
}

func TestP21_1Ledger(t *testing.T) {
	list := ledger()
	out, told := Ledger(env.New(), big, list...)
	if out == nil || len(told) != len(list) {
		t.Fatal(told)
	}
	v := env.New()
	for i, d := range list {
		next, one := Verdict(v, d, big)
		if one != told[i] || one.Err != api.OK {
			t.Error(i, one, told[i])
		}
		v = next
	}
	if !sameEnv(out, v) {
		t.Error(out.Order())
	}
	list[3] = sample.Axiom("bad", 0, "unknown")
	out, told = Ledger(env.New(), big, list...)
	if out != nil || len(told) != 4 || told[3] != (Told{api.ErrNone, 2}) {
		t.Error(told)
	}
	if out, told = Ledger(v, -1); out == nil || !sameEnv(out, v) || len(told) != 0 {
		t.Error("of none", told)
	}
	if out, told = Ledger(v, -1, list...); out != nil || len(told) != 1 || told[0] != (Told{Err: api.ErrRange}) {
		t.Error(told)
	}
}

func TestP21_2LookAsk(t *testing.T) {
	v, _ := Ledger(env.New(), big, ledger()...)
	for i, c := range []struct {
		name, typ string
		kind      int
	}{{"nat", "(* 1)", api.DInd}, {"nat.s", "(> nat nat)", api.ECtor}, {"eq.refl", "(> (* u0) (> #0 ((@ eq u0) #1 #0 #0)))", api.ECtor}, {"add", "(> nat (> nat nat))", api.DDef}, {"choice", "(> (* 1) nat)", api.DAxiom}, {"o", "nat", api.DOpaque}} {
		if typ, kind, err := Look(v, c.name); text.Term(typ) != c.typ || kind != c.kind || err != api.OK {
			t.Error(i, text.Term(typ), kind, err)
		}
	}
	if _, kind, err := Look(v, "nat.rec"); kind != api.ERec || err != api.OK {
		t.Error(kind, err)
	}
	for _, n := range []string{"", "unknown", "A", "\xff"} {
		if typ, kind, err := Look(v, n); typ.Kind != 0 || kind != 0 || err != api.ErrNone {
			t.Error(n, kind, err)
		}
	}
	for i, c := range []struct {
		t    api.Term
		fuel int
		typ  string
		told Told
	}{
		{sample.Term("(nat.s nat.z)"), big, "nat", Told{0, 6}}, {sample.Term("(nat.s nat.z)"), 6, "nat", Told{0, 6}}, {sample.Term("(nat.s nat.z)"), 5, "", Told{api.ErrFuel, 5}}, {sample.Term("(nat.s nat)"), big, "", Told{api.ErrType, -1}}, {term.Var(0), big, "", Told{api.ErrForm, 0}}, {api.Term{}, 0, "", Told{api.ErrForm, 0}}, {sample.Term("nat"), -1, "", Told{api.ErrRange, 0}}, {api.Term{}, big + 1, "", Told{api.ErrRange, 0}}, {sample.Term("nat"), 0, "", Told{api.ErrFuel, 0}},
	} {
		typ, told := Ask(v, c.t, c.fuel)
		if c.told.Ticks < 0 {
			c.told.Ticks = told.Ticks
		}
		if text.Term(typ) != c.typ || told != c.told {
			t.Error(i, text.Term(typ), told)
		}
	}
}

// TestP21_3More: other entries change nothing.
func TestP21_3More(t *testing.T) {
	list := ledger()
	others := []api.Decl{sample.Axiom("zz", 0, "(* 3)"), sample.Ind("other", 0, 0, "(* 1)", "other.a", "other"), sample.Def("aa", 0, "(* 3)", "zz")}
	v, told := Ledger(env.New(), big, list...)
	var mixed []api.Decl
	var places []int
	for i, d := range list {
		if i < len(others) {
			mixed = append(mixed, others[i])
		}
		places = append(places, len(mixed))
		mixed = append(mixed, d)
	}
	mixed[0], mixed[places[0]], places[0] = mixed[places[0]], mixed[0], 0
	w, more := Ledger(env.New(), big, mixed...)
	if v == nil || w == nil {
		t.Fatal(told, more)
	}
	for i, at := range places {
		if told[i] != more[at] {
			t.Error(i, told[i], more[at])
		}
		for _, n := range deps.Names(list[i]) {
			a, _ := v.Get(n)
			b, _ := w.Get(n)
			if !decl.Same(a, b) {
				t.Error(n)
			}
		}
	}
	again, repeat := Ledger(env.New(), big, list...)
	if !slices.Equal(repeat, told) || !sameEnv(again, v) || !reflect.DeepEqual(list, ledger()) {
		t.Error("a verdict hangs on something else")
	}
}

// TestP7Sound: without axioms nothing is of the type of all propositions; sums that are proved are right.
func TestP7Sound(t *testing.T) {
	list := append(ledger()[:4:4], sample.Ind("void", 0, 0, "(* 0)"))
	v, _ := Ledger(env.New(), big, list...)
	const all = "(> (* 0) #0)"
	for i, value := range []string{"(\\ (* 0) nat.z)", "(\\ (* 0) #0)", "((@ void.rec 0) (\\ void " + all + "))", "(\\ (* 0) ((@ void.rec 0) (\\ void #1)))", "((@ nat.rec 0) (\\ nat " + all + ") nat.z)", "(= " + all + " nat.z #0)", "((\\ " + all + " #0) nat.z)", "((@ eq.rec 1 0) nat nat.z)", "false", "(\\ (* 0) (false #0))"} {
		if _, told := Verdict(v, sample.Thm("false", 0, all, value), big); told.Err == api.OK {
			t.Error(i, value)
		}
	}
	for a := range 4 {
		for b := range 4 {
			for c := range 8 {
				typ := "((@ eq 1) nat (add " + sample.Num(a) + " " + sample.Num(b) + ") " + sample.Num(c) + ")"
				_, told := Verdict(v, sample.Thm("sum2", 0, typ, "((@ eq.refl 1) nat "+sample.Num(c)+")"), big)
				if (told.Err == api.OK) != (a+b == c) {
					t.Error(a, b, c, told)
				}
			}
		}
	}
	girard := sample.Def("u", 0, "(* 1)", "(> (* 1) #0)")
	if _, told := Verdict(v, girard, big); told.Err != api.ErrType {
		t.Error("types of all types", told)
	}
}
