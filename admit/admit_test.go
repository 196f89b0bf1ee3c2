package admit

import (
	"math"
	"reflect"
	"slices"
	"testing"

	"scholium/api"
	"scholium/decl"
	"scholium/env"
	"scholium/infer"
	"scholium/sample"
	"scholium/term"
	"scholium/whnf"
)

const big = api.MaxFuel

func world(t *testing.T) *env.Env {
	t.Helper()
	v, err := env.New().Add(append(sample.NatEntries(), sample.Entry("p", 0, "(* 0)", ""), sample.Entry("h", 0, "p", ""), sample.Entry("one", 0, "nat", "(nat.s nat.z)"))...)
	if err != api.OK {
		t.Fatal(err)
	}
	return v
}

func TestP16_1Plain(t *testing.T) {
	v := world(t)
	taken := sample.Axiom("nat", 0, "unknown")
	wrong := sample.Axiom("nat", 0, "#0")
	for i, c := range []struct {
		d    api.Decl
		fuel int
		err  api.Errno
		used int
	}{
		{sample.Axiom("a", 0, "nat"), big, 0, 2}, {sample.Axiom("a", 1, "(* u0)"), big, 0, 2}, {sample.Def("d", 0, "nat", "(nat.s one)"), big, 0, 9}, {sample.Thm("t", 0, "p", "h"), big, 0, 5}, {sample.Opaque("o", 0, "nat", "one"), big, 0, 5}, {sample.Opaque("o", 0, "p", "h"), big, 0, 5}, {sample.Def("d", 2, "(> (* u0) (> #0 (> (* u1) #2)))", "(\\ (* u0) (\\ #0 (\\ (* u1) #1)))"), big, 0, -1},
		{sample.Axiom("a", 0, "nat"), -1, api.ErrRange, 0}, {wrong, big + 1, api.ErrRange, 0}, {wrong, math.MinInt, api.ErrRange, 0}, {wrong, big, api.ErrForm, 0}, {api.Decl{}, big, api.ErrForm, 0}, {sample.Nat(), big, api.ErrForm, 0}, {sample.Ind("i", 0, 0, "(* 1)"), big, api.ErrForm, 0}, {taken, 0, api.ErrThere, 0}, {sample.Def("nat.rec", 0, "nat", "one"), 0, api.ErrThere, 0},
		{sample.Axiom("a", 0, "one"), big, api.ErrSort, 2}, {sample.Axiom("a", 0, "unknown"), big, api.ErrNone, 2}, {sample.Axiom("a", 0, "a"), big, api.ErrNone, 2}, {sample.Thm("t", 0, "nat", "unknown"), big, api.ErrSort, 2}, {sample.Thm("t", 0, "(* 0)", "p"), big, api.ErrSort, 2}, {sample.Thm("t", 1, "(* u0)", "p"), big, api.ErrSort, 2}, {sample.Def("d", 0, "unknown", "one"), big, api.ErrNone, 2}, {sample.Def("d", 0, "nat", "h"), big, api.ErrType, -1}, {sample.Def("d", 0, "nat", "(one one)"), big, api.ErrFunc, 5}, {sample.Def("d", 0, "nat", "d"), big, api.ErrNone, 4},
		{sample.Axiom("a", 0, "nat"), 1, api.ErrFuel, 1}, {sample.Def("d", 0, "nat", "(nat.s one)"), 8, api.ErrFuel, 8}, {sample.Def("d", 0, "nat", "(nat.s one)"), 9, 0, 9}, {sample.Axiom("a", 0, "nat"), 0, api.ErrFuel, 0},
	} {
		e, used, err := Plain(v, c.d, c.fuel)
		if err != c.err || c.used >= 0 && used != c.used || err != api.OK && !reflect.DeepEqual(e, api.Entry{}) || used > max(c.fuel, 0) {
			t.Error(i, e, used, err)
		}
		if want, _ := decl.Plain(c.d, 1+v.Height(c.d.Value)); err == api.OK && !decl.Same(e, want) {
			t.Error(i, e)
		}
		out, also, aerr := Add(v, c.d, c.fuel)
		if also != used || aerr != err || (out == nil) != (err != api.OK) || out != nil && (out.Len() != v.Len()+1 || !out.Has(c.d.Name)) {
			t.Error(i, also, aerr)
		}
	}
	high := sample.Entry("high", 0, "nat", "one")
	high.Height = 1 << 20
	v, _ = v.Add(high)
	if _, used, err := Plain(v, sample.Def("d", 0, "nat", "high"), big); err != api.ErrRange || used != 5 {
		t.Error("too high", used, err)
	}
	if e, _, err := Plain(v, sample.Opaque("d", 0, "nat", "high"), big); err != api.OK || e.Height != 0 {
		t.Error(err)
	}
}

func TestP16_2All(t *testing.T) {
	v := world(t)
	two, four := sample.Def("two", 0, "nat", "(nat.s one)"), sample.Def("four", 0, "nat", "(add two two)")
	out, ticks, err := All(v, big, two, sample.Add(), four, sample.Axiom("a", 0, "p"))
	if err != api.OK || !slices.Equal(out.Order()[v.Len():], []string{"two", "add", "four", "a"}) {
		t.Fatal(ticks, err)
	}
	sum, w := 0, v
	for _, d := range []api.Decl{two, sample.Add(), four, sample.Axiom("a", 0, "p")} {
		next, n, _ := Add(w, d, big)
		sum, w = sum+n, next
	}
	if e, _ := out.Get("four"); sum != ticks || e.Height != 3 {
		t.Error(sum, ticks, e.Height)
	}
	for i, c := range []struct {
		list  []api.Decl
		fuel  int
		place int
		err   api.Errno
	}{{[]api.Decl{four, two}, big, 0, api.ErrNone}, {[]api.Decl{two, sample.Add(), two}, big, 2, api.ErrThere}, {[]api.Decl{two, sample.Nat()}, big, 1, api.ErrForm}, {[]api.Decl{two, four}, -1, 0, api.ErrRange}, {[]api.Decl{two, sample.Add(), four}, 9, 1, api.ErrFuel}, {[]api.Decl{two, sample.Thm("t", 0, "nat", "two")}, 9, 1, api.ErrSort}} {
		if out, place, err := All(v, c.fuel, c.list...); out != nil || place != c.place || err != c.err {
			t.Error(i, place, err)
		}
	}
	if out, n, err := All(v, -5); n != 0 || err != api.OK || out.Len() != v.Len() {
		t.Error("of none", n, err)
	}
}

func TestP16_3Kept(t *testing.T) {
	list := []api.Decl{sample.Def("two", 0, "nat", "(nat.s one)"), sample.Add(), sample.Def("four", 0, "nat", "(add two two)"), sample.Axiom("id", 1, "(> (* u0) (> #0 #1))"), sample.Thm("t", 0, "p", "h"), sample.Opaque("o", 0, "(> nat nat)", "(add two)"), sample.Def("k", 2, "(> (* u0) (> #0 (> (* u1) #2)))", "(\\ (* u0) (\\ #0 (\\ (* u1) #1)))")}
	v := world(t)
	for i, d := range list {
		keep, _ := decl.Plain(d, 1)
		out, used, err := Add(v, d, big)
		if err != api.OK {
			t.Fatal(i, err)
		}
		run, _ := whnf.New(out, big)
		x := infer.New(run)
		self := term.Const(d.Name, []api.Level{{Kind: api.LParam}, {Kind: api.LParam, N: 1}}[:d.Params]...)
		if err := x.Check(nil, self, d.Type); err != api.OK {
			t.Error(i, err)
		}
		if same, err := x.Conv().Same(nil, self, d.Value); d.Kind == api.DDef && (!same || err != api.OK) {
			t.Error(i, same, err)
		}
		for n := range used + 3 {
			if _, ticks, err := Plain(v, d, n); n < used && (err != api.ErrFuel || ticks != n) || n >= used && (err != api.OK || ticks != used) {
				t.Error(i, n, ticks, err)
			}
		}
		if again, _ := decl.Plain(d, 1); !decl.Same(keep, again) {
			t.Error("changed")
		}
		v = out
	}
	e, _, _ := Plain(v, sample.Axiom("x", 0, "(> nat nat)"), big)
	e.Type.Args[0].Kind = 99
}
