package infer

import (
	"reflect"
	"strings"
	"testing"

	"scholium/api"
	"scholium/env"
	"scholium/sample"
	"scholium/term"
	"scholium/text"
	"scholium/whnf"
)

const big = api.MaxFuel

func world(t *testing.T) *env.Env {
	t.Helper()
	e := sample.Entry
	list := append(sample.NatEntries(), e("a", 0, "nat", ""), e("f", 0, "(> nat nat)", ""), e("d", 0, "nat", "a"), e("id", 1, "(> (* u0) (> #0 #1))", "(\\ (* u0) (\\ #0 #0))"), e("p", 0, "(* 0)", ""), e("h", 0, "p", ""), e("r", 0, "(> nat (* 0))", ""), e("rd", 0, "(r d)", ""), e("fun", 0, "(* 1)", "(> nat nat)"), e("ff", 0, "fun", ""), e("use", 0, "(> (r a) nat)", ""), e("big", 1, "(* (+ u0))", ""))
	v, err := env.New().Add(list...)
	if err != api.OK {
		t.Fatal(err)
	}
	return v
}

func with(t *testing.T, fuel int) *Infer {
	t.Helper()
	r, err := whnf.New(world(t), fuel)
	if err != api.OK {
		t.Fatal(err)
	}
	return New(r)
}

func nested(n int, kind, body string) string {
	return strings.Repeat("("+kind+" nat ", n) + body + strings.Repeat(")", n)
}

var cases = []struct {
	in, want string
	err      api.Errno
	used     int
}{
	{"a", "nat", 0, 2}, {"(* 0)", "(* (+ 0))", 0, 2}, {"(@ id 2)", "(> (* 2) (> #0 #1))", 0, 2}, {"(f a)", "nat", 0, 6}, {"(f d)", "nat", 0, 6}, {"(ff a)", "nat", 0, 7}, {"(use rd)", "nat", 0, 8}, {"(\\ nat #0)", "(> nat nat)", 0, 5}, {"(\\ (* u0) (\\ #0 #0))", "(> (* u0) (> #0 #1))", 0, 8}, {"(> nat nat)", "(* 1)", 0, 5}, {"(> nat p)", "(* 0)", 0, 5},
	{"(> (* 0) nat)", "(* 1)", 0, 5}, {"(> (* 1) nat)", "(* (? (+ 1) 1))", 0, 5}, {"(= nat a (f #0))", "nat", 0, 12}, {"(= (r a) rd (use #0))", "nat", 0, 20}, {"(= (* 1) nat (\\ #0 (f #0)))", "(> nat nat)", 0, 15}, {"((\\ nat (f #0)) d)", "nat", 0, 13},
	{"((@ nat.rec 1) (\\ nat nat) a (\\ nat (\\ nat #0)) a)", "((\\ nat nat) a)", 0, -1}, {"(\\ fun (#0 a))", "(> fun nat)", 0, -1},
	{"unknown", "", api.ErrNone, 2}, {"id", "", api.ErrLevel, 2}, {"(@ big " + strings.Repeat("(+ ", 63) + "0" + strings.Repeat(")", 63) + ")", "", api.ErrMany, 2}, {"(* " + strings.Repeat("(+ ", 63) + "0" + strings.Repeat(")", 63) + ")", "", api.ErrMany, 2},
	{"(a unknown)", "", api.ErrFunc, 3}, {"(unknown id)", "", api.ErrNone, 3}, {"(f unknown)", "", api.ErrNone, 5}, {"(f p)", "", api.ErrType, -1}, {"(f (a a))", "", api.ErrFunc, 6}, {"(f a a)", "", api.ErrFunc, 7}, {"((\\ nat #0) p)", "", api.ErrType, -1}, {"((\\ nat p) a)", "(* 0)", 0, -1},
	{"(\\ a unknown)", "", api.ErrSort, 3}, {"(\\ unknown a)", "", api.ErrNone, 3}, {"(\\ nat (#0 a))", "", api.ErrFunc, 6}, {"(> a unknown)", "", api.ErrSort, 3}, {"(> nat a)", "", api.ErrSort, 5}, {"(> nat unknown)", "", api.ErrNone, 5}, {"(= a unknown unknown)", "", api.ErrSort, 3}, {"(= nat unknown unknown)", "", api.ErrNone, 5}, {"(= nat p unknown)", "", api.ErrType, -1}, {"(= nat a unknown)", "", api.ErrNone, 8}, {"(= unknown a a)", "", api.ErrNone, 3},
	{nested(64, "\\", "a"), "", 0, -1}, {nested(65, "\\", "a"), "", api.ErrMany, 65 + 2*65}, {nested(65, ">", "nat"), "", api.ErrMany, 65 + 2*65}, {"(> (big a) a)", "", api.ErrLevel, -1},
}

func TestP15_1Infer(t *testing.T) {
	for i, c := range cases {
		x := with(t, big)
		got, err := x.Infer(nil, sample.Term(c.in))
		if err != c.err || c.want != "" && text.Term(got) != c.want || c.used >= 0 && x.Conv().Run().Used() != c.used || err != api.OK && !reflect.DeepEqual(got, api.Term{}) {
			t.Error(i, c.in[:min(len(c.in), 40)], text.Term(got), err, x.Conv().Run().Used())
		}
		y := with(t, big)
		if typ, terr := y.Conv().Type(nil, sample.Term(c.in)); err == api.OK && (terr != api.OK || !term.Same(typ, got)) {
			t.Error(i, "layer 14's Type", text.Term(typ), terr)
		}
	}
}

func TestP15_1Bounds(t *testing.T) {
	above := func(n int, l string) string { return strings.Repeat("(+ ", n) + l + strings.Repeat(")", n) }
	long := func(n int, last string) []api.Term {
		return sample.Terms("(f" + strings.Repeat(" a", n) + " " + last + ")")
	}
	for i, c := range []struct {
		ctx []api.Term
		in  string
		err api.Errno
	}{
		{long(997, "(* 0)"), "(\\ nat #1)", 0}, {long(998, "a"), "(\\ nat #1)", api.ErrMany}, {nil, "(* " + above(62, "0") + ")", 0}, {nil, "(* " + above(63, "0") + ")", api.ErrMany}, {nil, "(> (* " + above(29, "u0") + ") (* " + above(30, "u1") + "))", 0}, {nil, "(> (* " + above(30, "u0") + ") (* " + above(30, "u1") + "))", api.ErrMany},
	} {
		if _, err := with(t, big).Infer(c.ctx, sample.Term(c.in)); err != c.err {
			t.Error(i, err)
		}
	}
}

func TestP15_1Form(t *testing.T) {
	nat := sample.Term("nat")
	for i, c := range []struct {
		ctx []api.Term
		t   api.Term
	}{{nil, api.Term{}}, {nil, term.Var(0)}, {[]api.Term{nat}, term.Var(1)}, {sample.Terms("#0"), nat}, {make([]api.Term, 65), nat}, {[]api.Term{{}}, nat}, {nil, term.Const("A")}} {
		x := with(t, 0)
		typ, err := x.Infer(c.ctx, c.t)
		l, serr := x.Sort(c.ctx, c.t)
		if err != api.ErrForm || serr != api.ErrForm || x.Check(c.ctx, c.t, nat) != api.ErrForm || typ.Kind != 0 || l.Kind != 0 {
			t.Error(i, err, serr)
		}
	}
	ctx := sample.Terms("(* 1)", "#0", "(> #1 nat)")
	for i, c := range []struct{ in, want string }{{"#1", "#2"}, {"(#0 #1)", "nat"}, {"#0", "(> #2 nat)"}, {"(\\ #2 (#1 #0))", "(> #2 nat)"}} {
		if got, err := with(t, big).Infer(ctx, sample.Term(c.in)); err != api.OK || text.Term(got) != c.want {
			t.Error(i, text.Term(got), err)
		}
	}
}

func TestP15_2Sort(t *testing.T) {
	for i, c := range []struct {
		in, want string
		err      api.Errno
		used     int
	}{{"nat", "1", 0, 2}, {"p", "0", 0, 2}, {"(> nat p)", "0", 0, 5}, {"((\\ nat p) a)", "0", 0, 9}, {"((@ id 2) (* 1) nat)", "1", 0, -1}, {"a", "", api.ErrSort, 2}, {"f", "", api.ErrSort, 2}, {"unknown", "", api.ErrNone, 2}, {"(f p)", "", api.ErrType, -1}} {
		x := with(t, big)
		got, err := x.Sort(nil, sample.Term(c.in))
		if err != c.err || text.Level(got) != c.want || c.used >= 0 && x.Conv().Run().Used() != c.used {
			t.Error(i, text.Level(got), err, x.Conv().Run().Used())
		}
	}
}

func TestP15_2Check(t *testing.T) {
	for i, c := range []struct {
		t, typ string
		err    api.Errno
		used   int
	}{{"a", "nat", 0, 3}, {"rd", "(r a)", 0, 5}, {"ff", "(> nat nat)", 0, 6}, {"h", "nat", api.ErrType, -1}, {"h", "(\\ nat nat)", api.ErrType, -1}, {"unknown", "#4", api.ErrNone, 2}, {"a", "#0", api.ErrForm, 2}, {"(f p)", "nat", api.ErrType, -1}, {"nat", "(* 1)", 0, 3}, {"nat", "(* 2)", api.ErrType, -1}, {"a", "((\\ nat nat) unknown)", 0, 4}} {
		x := with(t, big)
		if err := x.Check(nil, sample.Term(c.t), sample.Term(c.typ)); err != c.err || c.used >= 0 && x.Conv().Run().Used() != c.used {
			t.Error(i, err, x.Conv().Run().Used())
		}
	}
	if err := with(t, big).Check(nil, sample.Term("a"), api.Term{}); err != api.ErrForm {
		t.Error(err)
	}
}

func TestP15_2Context(t *testing.T) {
	many := func(n int) []string { return strings.Split(strings.Repeat("nat ", n-1)+"nat", " ") }
	for i, c := range []struct {
		ctx []string
		err api.Errno
	}{{nil, 0}, {[]string{"nat", "(r #0)", "(> (r #1) nat)"}, 0}, {[]string{"nat", "a"}, api.ErrSort}, {[]string{"nat", "#0", "unknown"}, api.ErrSort}, {[]string{"nat", "unknown", "#0"}, api.ErrNone}, {[]string{"(* 1)", "#0", "#1", "(f #0)"}, api.ErrType}, {[]string{"#0"}, api.ErrForm}, {[]string{"nat", "", "unknown"}, api.ErrForm}, {many(64), 0}, {many(65), api.ErrForm}, {many(100), api.ErrForm}} {
		if err := with(t, big).Context(sample.Terms(c.ctx...)); err != c.err {
			t.Error(i, err)
		}
	}
}

func TestP15_3Ticks(t *testing.T) {
	for i, c := range cases {
		full := with(t, big)
		want, err := full.Infer(nil, sample.Term(c.in))
		used := full.Conv().Run().Used()
		for n := 0; n < used+2; n += 1 + used/40 {
			x := with(t, n)
			got, nerr := x.Infer(nil, sample.Term(c.in))
			if n < used && (nerr != api.ErrFuel || x.Conv().Run().Left() != 0 || got.Kind != 0) || n >= used && (nerr != err || !term.Same(got, want) || x.Conv().Run().Used() != used) {
				t.Error(i, n, used, nerr)
			}
		}
	}
}

// TestP15_3Kept: a type is of a sort, and what a term reduces to has a type that is one with it.
func TestP15_3Kept(t *testing.T) {
	for i, c := range cases {
		if c.err != api.OK {
			continue
		}
		x := with(t, big)
		typ, _ := x.Infer(nil, sample.Term(c.in))
		if _, err := x.Sort(nil, typ); err != api.OK && c.want != "" {
			t.Error(i, c.in, err)
		}
		nf, err := x.Conv().Run().Nf(sample.Term(c.in))
		if err == api.OK {
			err = x.Check(nil, nf, typ)
		}
		if err != api.OK {
			t.Error(i, c.in, err)
		}
		for _, o := range cases {
			a, aerr := with(t, big).Conv().Same(nil, sample.Term(c.in), sample.Term(o.in))
			b, berr := with(t, big).Conv().Same(nil, sample.Term(o.in), sample.Term(c.in))
			if o.err == api.OK && (a != b || aerr != berr) {
				t.Error(c.in, o.in, a, b)
			}
		}
	}
}

func TestP15_3NewMemory(t *testing.T) {
	ctx := sample.Terms("(> nat nat)")
	for _, s := range []string{"(\\ (r a) #0)", "#0", "f", "(f a)", "(= nat (f a) (\\ (r #0) #0))", "(\\ (> nat nat) (\\ (> nat nat) #0))"} {
		in := sample.Term(s)
		typ, err := with(t, big).Infer(ctx, in)
		if err != api.OK {
			t.Error(s, err)
		}
		spoil(typ)
		if !term.Same(in, sample.Term(s)) || !term.Same(ctx[0], sample.Term("(> nat nat)")) {
			t.Error(s)
		}
	}
	room := append(make([]api.Term, 0, 9), sample.Term("nat"))
	with(t, big).Infer(room, sample.Term("(\\ p #0)"))
	if room[:2][1].Kind != 0 {
		t.Error("what lies behind a context is changed")
	}
}

func spoil(t api.Term) {
	for i := range t.Args {
		spoil(t.Args[i])
		t.Args[i].Kind = 99
	}
}
