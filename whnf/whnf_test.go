package whnf

import (
	"math"
	"reflect"
	"strings"
	"testing"

	"scholium/api"
	"scholium/env"
	"scholium/sample"
	"scholium/term"
	"scholium/text"
)

const big = 1 << 20

// world: the numbers, and some names more.
func world(t *testing.T) *env.Env {
	t.Helper()
	sum := sample.Add()
	list := append(sample.NatEntries(), sample.Entry("a", 0, "nat", ""), sample.Entry("f", 0, "(> nat nat)", ""), sample.Entry("d", 0, "nat", "a"), sample.Entry("id", 1, "(> (* u0) (> #0 #1))", "(\\ (* u0) (\\ #0 #0))"), sample.Entry("loop", 0, "nat", "(f loop)"), sample.Entry("endless", 0, "nat", "((@ nat.rec 0) f a f endless)"))
	list = append(list, api.Entry{Kind: api.DDef, Name: "add", Type: sum.Type, Value: sum.Value, Height: 1}, api.Entry{Kind: api.DThm, Name: "thm", Type: sum.Type, Value: sum.Value})
	v, err := env.New().Add(list...)
	if err != api.OK {
		t.Fatal(err)
	}
	return v
}

func run(t *testing.T, fuel int) *Run {
	t.Helper()
	r, err := New(world(t), fuel)
	if err != api.OK {
		t.Fatal(err)
	}
	return r
}

func TestP13_1Ticks(t *testing.T) {
	v := world(t)
	for _, n := range []int{-1, api.MaxFuel + 1, math.MinInt, math.MaxInt} {
		if r, err := New(v, n); r != nil || err != api.ErrRange {
			t.Error(n, err)
		}
	}
	r, err := New(v, api.MaxFuel)
	if err != api.OK || r.Used() != 0 || r.Left() != api.MaxFuel || r.Env() != v {
		t.Error(err)
	}
	r = run(t, 5)
	for i, c := range []struct {
		n    int
		ok   bool
		used int
	}{{3, true, 3}, {3, false, 3}, {-1, false, 3}, {0, true, 3}, {math.MaxInt, false, 3}, {math.MinInt, false, 3}, {2, true, 5}, {0, true, 5}, {1, false, 5}} {
		if r.Spend(c.n) != c.ok || r.Used() != c.used || r.Left() != 5-c.used {
			t.Error(i, r.Used())
		}
	}
	if r := run(t, 0); r.Left() != 0 || r.Spend(1) || !r.Spend(0) {
		t.Error("no ticks")
	}
}

func TestP13_2Kinds(t *testing.T) {
	for i, c := range []struct {
		in, out string
		kind    int
		used    int
	}{
		{"((\\ nat (f #0)) a)", "(f a)", Beta, 1}, {"((\\ nat (\\ nat (#0 #1 #2))) #5 a)", "((\\ nat (#0 #6 #1)) a)", Beta, 1}, {"((= nat a (\\ nat #1)) f)", "((\\ nat a) f)", Zeta, 1}, {"(= nat a (f #0 #1))", "(f a #0)", Zeta, 1},
		{"d", "a", Delta, 1}, {"(d #3)", "(a #3)", Delta, 1}, {"((@ id 2) nat)", "((\\ (* 2) (\\ #0 #0)) nat)", Delta, 1}, {"id", "id", 0, 0}, {"(@ id 0 0)", "(@ id 0 0)", 0, 0}, {"(@ d 0)", "(@ d 0)", 0, 0}, {"thm", "thm", 0, 0}, {"a", "a", 0, 0}, {"(unknown d)", "(unknown d)", 0, 0},
		{"#0", "#0", 0, 0}, {"(* u3)", "(* u3)", 0, 0}, {"(\\ nat ((\\ nat #0) #0))", "(\\ nat ((\\ nat #0) #0))", 0, 0}, {"(> ((\\ nat #0) a) d)", "(> ((\\ nat #0) a) d)", 0, 0}, {"(f ((\\ nat #0) a))", "(f ((\\ nat #0) a))", 0, 0}, {"((* 0) d)", "((* 0) d)", 0, 0},
	} {
		r := run(t, big)
		got, kind, err := r.Step(sample.Term(c.in))
		if text.Term(got) != c.out || kind != c.kind || err != api.OK || r.Used() != c.used {
			t.Error(i, text.Term(got), kind, err, r.Used())
		}
	}
}

func TestP13_2Iota(t *testing.T) {
	const lead = "(@ nat.rec 1) #1 #2 #3 "
	zero := "((\\ (> nat (* 1)) (\\ (#0 nat.z) (\\ (> nat (> (#2 #0) (#3 (nat.s #1)))) #1))) #1 #2 #3"
	succ := "((\\ (> nat (* 1)) (\\ (#0 nat.z) (\\ (> nat (> (#2 #0) (#3 (nat.s #1)))) (\\ nat (#1 #0 ((@ nat.rec 1) #3 #2 #1 #0)))))) #1 #2 #3"
	for i, c := range []struct {
		in, out string
		kind    int
		used    int
	}{
		{"(" + lead + "nat.z)", zero + ")", Iota, 1}, {"(" + lead + "nat.z #7 #8)", zero + " #7 #8)", Iota, 1}, {"(" + lead + "(nat.s d) #7)", succ + " d #7)", Iota, 1}, {"(" + lead + "((\\ nat #0) (= nat a nat.z)))", zero + ")", Iota, 3},
		{"(" + lead + "d)", "(" + lead + "d)", 0, 1}, {"(" + lead + "((\\ nat #0) d))", "(" + lead + "((\\ nat #0) d))", 0, 2}, {"(" + lead[:len(lead)-1] + ")", "(" + lead[:len(lead)-1] + ")", 0, 0}, {"(nat.rec #1 #2 #3 nat.z)", "(nat.rec #1 #2 #3 nat.z)", 0, 0}, {"((@ nat.rec 0 0) #1 #2 #3 nat.z)", "((@ nat.rec 0 0) #1 #2 #3 nat.z)", 0, 0},
		{"(" + lead + "(nat.z a))", "(" + lead + "(nat.z a))", 0, 0}, {"(" + lead + "nat.s)", "(" + lead + "nat.s)", 0, 0}, {"(" + lead + "nat)", "(" + lead + "nat)", 0, 0},
	} {
		r := run(t, big)
		got, kind, err := r.Step(sample.Term(c.in))
		if text.Term(got) != c.out || kind != c.kind || err != api.OK || r.Used() != c.used {
			t.Error(i, text.Term(got), kind, err, r.Used())
		}
	}
}

// family: a recursor with parameters, indices and a constructor, of which the entries are given by hand.
func family(t *testing.T, change func(c, r *api.Entry)) *env.Env {
	t.Helper()
	ctor := api.Entry{Kind: api.ECtor, Name: "c", Type: sample.Term("(* 0)"), Value: sample.Term("k"), Family: "i", Fixed: 1, Fields: 2}
	rec := api.Entry{Kind: api.ERec, Name: "r", Type: sample.Term("(* 0)"), Family: "i", Fixed: 2, Index: 1, Ctors: []string{"c", "b"}}
	change(&ctor, &rec)
	v, err := env.New().Add(ctor, rec)
	if err != api.OK {
		t.Fatal(err)
	}
	return v
}

func TestP13_2IotaByEntries(t *testing.T) {
	const in = "(r p1 p2 m n1 n2 x (c q f1 f2) o1 o2)"
	const out = "(k p1 p2 m n1 n2 f1 f2 o1 o2)"
	for i, c := range []struct {
		change func(c, r *api.Entry)
		out    string
		err    api.Errno
		used   int
	}{
		{func(c, r *api.Entry) {}, out, api.OK, 1}, {func(c, r *api.Entry) { c.Value = api.Term{} }, in, api.OK, 0}, {func(c, r *api.Entry) { c.Fixed = 2 }, in, api.OK, 0}, {func(c, r *api.Entry) { c.Fixed, c.Fields = 0, 3 }, "(k p1 p2 m n1 n2 q f1 f2 o1 o2)", api.OK, 1}, {func(c, r *api.Entry) { r.Ctors = []string{"b", "d"} }, in, api.OK, 0},
		{func(c, r *api.Entry) { *c = sample.Entry("c", 0, "(* 0)", "") }, in, api.OK, 0}, {func(c, r *api.Entry) { r.Index = 2 }, in, api.OK, 0}, {func(c, r *api.Entry) { r.Params = 1 }, in, api.OK, 0}, {func(c, r *api.Entry) { c.Value = sample.Term("(* u0)") }, "", api.ErrMany, 1},
	} {
		r, _ := New(family(t, c.change), big)
		got, _, err := r.Step(sample.Term(in))
		if text.Term(got) != c.out || err != c.err || r.Used() != c.used {
			t.Error(i, text.Term(got), err, r.Used())
		}
	}
}

func TestP13_2Errors(t *testing.T) {
	far := term.Var(1 << 40)
	for i, x := range []api.Term{{}, term.Var(-1), far, term.Lam(far, sample.Term("nat")), term.App(sample.Term("nat"), api.Term{})} {
		r := run(t, big)
		_, kind, err := r.Step(x)
		_, werr := r.Whnf(x)
		_, nerr := r.Nf(x)
		if err != api.ErrForm || werr != api.ErrForm || nerr != api.ErrForm || kind != 0 || r.Used() != 0 {
			t.Error(i, err, werr, nerr)
		}
	}
}

// wide: f applied to n times a term of the text.
func wide(n int, s string) string { return "(f" + strings.Repeat(" "+s, n) + ")" }

func TestP13_2FuelAndMany(t *testing.T) {
	for i, c := range []struct {
		in   string
		fuel int
		err  api.Errno
		used int
	}{
		{"d", 0, api.ErrFuel, 0}, {"d", 1, api.OK, 1}, {"a", 0, api.OK, 0}, {"((@ nat.rec 0) a a a d)", 0, api.ErrFuel, 0}, {"((@ nat.rec 0) a a a d)", 1, api.OK, 1}, {"((@ nat.rec 0) a a a nat.z)", 0, api.ErrFuel, 0}, {"((@ nat.rec 0) a a a ((\\ nat nat.z) a))", 1, api.ErrFuel, 1},
		{"((\\ nat (#0 #0)) " + wide(499, "a") + ")", 9, api.OK, 1}, {"((\\ nat (#0 #0)) " + wide(500, "a") + ")", 9, api.ErrMany, 1}, {"((\\ nat (#0 #0)) " + wide(500, "a") + ")", 0, api.ErrFuel, 0},
		{"((\\ nat (#0 #0)) " + wide(300, "a") + strings.Repeat(" a", 398) + ")", 9, api.OK, 1}, {"((\\ nat (#0 #0)) " + wide(300, "a") + strings.Repeat(" a", 399) + ")", 9, api.ErrMany, 1},
		{"((\\ nat (#0 #0)) " + wide(300, "a") + strings.Repeat(" a", 397) + " (* 0))", 9, api.OK, 1}, {"((@ nat.rec 0) a a a ((\\ nat (#0 #0)) " + wide(500, "a") + "))", 9, api.ErrMany, 1}, {"((@ id " + strings.Repeat("(+ ", 63) + "0" + strings.Repeat(")", 63) + ") a)", 9, api.OK, 1},
	} {
		r := run(t, c.fuel)
		got, kind, err := r.Step(sample.Term(c.in))
		if err != c.err || r.Used() != c.used || err != api.OK && (kind != 0 || !reflect.DeepEqual(got, api.Term{})) {
			t.Error(i, err, r.Used())
		}
	}
	tall := sample.Entry("tall", 1, "(* 2)", "(* (+ u0))")
	v, _ := env.New().Add(tall)
	r, _ := New(v, 3)
	if _, _, err := r.Step(sample.Term("(@ tall " + strings.Repeat("(+ ", 63) + "0" + strings.Repeat(")", 63) + ")")); err != api.ErrMany || r.Used() != 1 {
		t.Error("levels that can't be put in", err, r.Used())
	}
}

func TestP13_3Whnf(t *testing.T) {
	for i, c := range []struct {
		in, out string
		used    int
	}{
		{"(add a (nat.s d))", "(nat.s ((@ nat.rec 1) (\\ nat nat) a (\\ nat (\\ nat (nat.s #0))) d))", 10}, {"((@ nat.rec 0) f a f d)", "((@ nat.rec 0) f a f d)", 1}, {"(\\ nat d)", "(\\ nat d)", 0}, {"(= nat d #0)", "a", 2}, {"(f d)", "(f d)", 0}, {"((@ id 1) nat d)", "a", 4},
	} {
		r := run(t, big)
		got, err := r.Whnf(sample.Term(c.in))
		if text.Term(got) != c.out || err != api.OK || r.Used() != c.used {
			t.Error(i, text.Term(got), err, r.Used())
		}
		kind, steps := 0, run(t, big)
		for at := sample.Term(c.in); ; {
			at, kind, _ = steps.Step(at)
			if kind == 0 {
				if text.Term(at) != c.out || steps.Used() != c.used {
					t.Error(i, "by steps", text.Term(at), steps.Used())
				}
				break
			}
		}
	}
}

func TestP13_3Nf(t *testing.T) {
	for i, c := range []struct {
		in, out string
		used    int
	}{
		{"(\\ d (f d #0))", "(\\ a (f a #0))", 2}, {"(> d (f d #0))", "(> a (f a #0))", 2}, {"(f (f d) ((\\ nat #0) d))", "(f (f a) a)", 3}, {"((@ nat.rec 0) f d f d)", "((@ nat.rec 0) f a f a)", 3}, {"(* u1)", "(* u1)", 0}, {"((* 0) d)", "((* 0) a)", 1},
		{"(add " + sample.Num(3) + " " + sample.Num(4) + ")", sample.Num(7), 35}, {"((> d d) d)", "((> a a) a)", 3},
	} {
		r := run(t, big)
		got, err := r.Nf(sample.Term(c.in))
		if text.Term(got) != c.out || err != api.OK || r.Used() != c.used {
			t.Error(i, text.Term(got), err, r.Used())
		}
	}
	// each part is small enough, but not what they are put together to
	grow := "((\\ nat " + wide(20, "#0") + ") " + wide(20, "a") + ")"
	for i, c := range []struct {
		in   string
		err  api.Errno
		used int
	}{{wide(2, grow), api.OK, 2}, {wide(3, grow), api.ErrMany, 3}, {"(f (f " + grow + " " + grow + " " + grow + ") d)", api.ErrMany, 3}, {"(\\ " + grow + " " + wide(2, grow) + ")", api.ErrMany, 3}, {"(" + wide(3, grow)[1:len(wide(3, grow))-1] + " d)", api.ErrMany, 4}} {
		r := run(t, big)
		if got, err := r.Nf(sample.Term(c.in)); err != c.err || r.Used() != c.used || err != api.OK && !reflect.DeepEqual(got, api.Term{}) {
			t.Error(i, err, r.Used())
		}
	}
	if full := "(f" + strings.Repeat(" a", 998) + " (* 0))"; text.Term(mustNf(t, full)) != full {
		t.Error("2000 nodes")
	}
	if text.Term(mustNf(t, "(d d)")) != "(a a)" {
		t.Error("head")
	}
}

func mustNf(t *testing.T, s string) api.Term {
	t.Helper()
	out, err := run(t, big).Nf(sample.Term(s))
	if err != api.OK {
		t.Error(err)
	}
	return out
}

// TestP13_3WithoutEnd: what goes on for ever, as deep as there are ticks, ends with them.
func TestP13_3WithoutEnd(t *testing.T) {
	for _, c := range []struct {
		in   string
		nf   bool
		fuel int
	}{{"((\\ nat (#0 #0)) (\\ nat (#0 #0)))", false, api.MaxFuel}, {"loop", true, api.MaxFuel}, {"endless", false, api.MaxFuel}, {"((\\ nat ((@ nat.rec 0) f a f (#0 #0))) (\\ nat ((@ nat.rec 0) f a f (#0 #0))))", false, 1 << 14}} {
		r := run(t, c.fuel)
		ask := r.Whnf
		if c.nf {
			ask = r.Nf
		}
		if _, err := ask(sample.Term(c.in)); err != api.ErrFuel || r.Left() != 0 {
			t.Error(c.in, err, r.Left())
		}
	}
}

func TestP13_4MoreTicks(t *testing.T) {
	for _, in := range []string{"(add a (nat.s d))", "(add " + sample.Num(2) + " " + sample.Num(2) + ")", "(f d (\\ nat d))"} {
		full := run(t, big)
		want, _ := full.Nf(sample.Term(in))
		for n := range full.Used() + 3 {
			r := run(t, n)
			got, err := r.Nf(sample.Term(in))
			if n < full.Used() && (err != api.ErrFuel || r.Left() != 0) || n >= full.Used() && (err != api.OK || r.Used() != full.Used() || !term.Same(got, want)) {
				t.Error(in, n, err)
			}
		}
	}
}

func TestP13_4NewMemory(t *testing.T) {
	for _, s := range []string{"(f (\\ nat #0))", "((\\ nat #0) (f a))", "((\\ nat (f #0 #0)) (f a))", "(\\ nat (f #0))"} {
		in, keep := sample.Term(s), sample.Term(s)
		r := run(t, big)
		one, _, _ := r.Step(in)
		two, _ := r.Whnf(in)
		three, _ := r.Nf(in)
		for _, x := range []api.Term{one, two, three} {
			was := text.Term(x)
			if len(x.Args) == 2 && x.Args[1].Kind == api.TApp { // the last part stands twice in the third one
				x.Args[1].Args[0].Name = "changed"
				if strings.Count(text.Term(x), "changed") != 1 {
					t.Error(was, text.Term(x))
				}
			}
			spoil(x)
		}
		if !term.Same(in, keep) {
			t.Error(s)
		}
	}
	if text.Term(mustNf(t, "d")) != "a" {
		t.Error("the environment is changed")
	}
}

func spoil(t api.Term) {
	for i := range t.Args {
		spoil(t.Args[i])
		t.Args[i].Kind = 99
	}
}
