package conv

import (
	"reflect"
	"strings"
	"testing"

	"scholium/api"
	"scholium/env"
	"scholium/sample"
	"scholium/term"
	"scholium/text"
	"scholium/whnf"
)

const big = api.MaxFuel

func world(t *testing.T) *env.Env {
	t.Helper()
	e := sample.Entry
	list := append(sample.NatEntries(), e("a", 0, "nat", ""), e("b", 0, "nat", ""), e("f", 0, "(> nat nat)", ""), e("g", 0, "(> nat nat)", ""), e("d", 0, "nat", "a"), e("id", 1, "(> (* u0) (> #0 #1))", "(\\ (* u0) (\\ #0 #0))"))
	list = append(list, e("p", 0, "(* 0)", ""), e("q", 0, "(* 0)", ""), e("h1", 0, "p", ""), e("h2", 0, "p", ""), e("k", 0, "q", ""), e("r", 0, "(> nat (* 0))", ""), e("ra", 0, "(r a)", ""), e("rd", 0, "(r d)", ""), e("fun", 0, "(* 1)", "(> nat nat)"), e("ff", 0, "fun", ""), e("c", 1, "(> (* u0) nat)", ""), e("k2", 2, "(* 1)", ""))
	list = append(list, e("loop", 0, "nat", "(f loop)"), e("pool", 0, "nat", "(f pool)"), e("x", 0, "y", "(* 0)"), e("y", 0, "x", "(* 0)"), e("hx", 0, "x", ""), e("two", 0, "(> nat (> nat nat))", ""), e("by", 0, "(> nat (> nat nat))", "(\\ nat (\\ nat #0))"))
	v, err := env.New().Add(list...)
	if err != api.OK {
		t.Fatal(err)
	}
	return v
}

func with(t *testing.T, fuel int) *Conv {
	t.Helper()
	r, err := whnf.New(world(t), fuel)
	if err != api.OK {
		t.Fatal(err)
	}
	return New(r)
}

// nested: n binders of the kind ahead of a body.
func nested(n int, kind, body string) string {
	return strings.Repeat("("+kind+" nat ", n) + body + strings.Repeat(")", n)
}

func nats(n int) []api.Term {
	var ctx []api.Term
	for range n {
		ctx = append(ctx, sample.Term("nat"))
	}
	return ctx
}

func TestP14_1Type(t *testing.T) {
	tall := "(* " + strings.Repeat("(+ ", 63) + "0" + strings.Repeat(")", 63) + ")"
	wide := "(\\ nat (f" + strings.Repeat(" a", 998) + "))"
	for i, c := range []struct {
		ctx      []api.Term
		in, want string
		err      api.Errno
		used     int
	}{
		{nats(1), "#0", "nat", 0, 1}, {sample.Terms("(* 1)", "#0"), "#0", "#1", 0, 1}, {sample.Terms("(* 1)", "#0", "nat"), "#1", "#2", 0, 1}, {sample.Terms("(* 1)", "(> #0 (#1 #0))"), "#0", "(> #1 (#2 #0))", 0, 1},
		{nil, "(* 0)", "(* (+ 0))", 0, 1}, {nil, "(* (| u0 2))", "(* (+ (| u0 2)))", 0, 1}, {nil, "f", "(> nat nat)", 0, 1}, {nil, "(@ id 3)", "(> (* 3) (> #0 #1))", 0, 1}, {nil, "(f a)", "nat", 0, 2}, {nil, "(f p)", "nat", 0, 2}, {nil, "((@ id 1) nat)", "(> nat nat)", 0, 2},
		{nil, "(ff a)", "nat", 0, 3}, {nil, "(\\ nat #0)", "(> nat nat)", 0, 2}, {nil, "(\\ d #0)", "(> d d)", 0, 2}, {nil, "(> nat nat)", "(* 1)", 0, 3}, {nil, "(> nat p)", "(* 0)", 0, 3}, {nil, "(> (* 3) nat)", "(* (? (+ 3) 1))", 0, 3}, {nil, "(> (* u0) #0)", "(* (? (+ u0) u0))", 0, 3}, {nil, "(> p nat)", "(* 1)", 0, 3},
		{nil, "(= nat a (f #0))", "nat", 0, 3}, {nil, "(= p nat (\\ #0 #0))", "(> nat nat)", 0, 3}, {nil, "((\\ nat f) a a)", "nat", 0, 4},
		{nil, "unknown", "", api.ErrNone, 1}, {nil, "(@ nat 0)", "", api.ErrLevel, 1}, {nil, "id", "", api.ErrLevel, 1}, {nil, "(d a)", "", api.ErrFunc, 2}, {nil, "(f a a)", "", api.ErrFunc, 3}, {nil, "(> a nat)", "", api.ErrSort, 2}, {nil, "(> nat a)", "", api.ErrSort, 3}, {nil, "(> unknown (d a))", "", api.ErrNone, 2},
		{nil, tall, "", api.ErrMany, 1}, {nil, wide, "", api.ErrFunc, -1}, {nil, nested(64, "\\", "a"), "", 0, 65}, {nil, nested(65, "\\", "a"), "", api.ErrMany, 65}, {nats(60), nested(5, "\\", "a"), "", api.ErrMany, 5}, {nil, nested(65, ">", "nat"), "", api.ErrMany, 130}, {nats(64), "#63", "nat", 0, 1},
	} {
		cv := with(t, big)
		got, err := cv.Type(c.ctx, sample.Term(c.in))
		if err != c.err || c.want != "" && text.Term(got) != c.want || c.used >= 0 && cv.Run().Used() != c.used || err != api.OK && !reflect.DeepEqual(got, api.Term{}) {
			t.Error(i, c.in[:min(len(c.in), 40)], text.Term(got), err, cv.Run().Used())
		}
	}
}

// full: a term of so many nodes.
func full(n int) api.Term {
	s := "(f" + strings.Repeat(" a", (n-1)/2)
	if n%2 == 0 {
		s = s[:len(s)-2] + " (* 0)"
	}
	return sample.Term(s + ")")
}

// above: a level so many above another one.
func above(n int, l string) string {
	return strings.Repeat("(+ ", n) + l + strings.Repeat(")", n)
}

func TestP14_1Bounds(t *testing.T) {
	for i, c := range []struct {
		ctx []api.Term
		in  string
		err api.Errno
	}{
		{[]api.Term{full(1998)}, "(\\ nat #1)", 0}, {[]api.Term{full(1999)}, "(\\ nat #1)", api.ErrMany}, {nil, "(* " + above(62, "0") + ")", 0}, {nil, "(* " + above(63, "0") + ")", api.ErrMany}, {nil, "(> (* " + above(29, "u0") + ") (* " + above(30, "u1") + "))", 0}, {nil, "(> (* " + above(30, "u0") + ") (* " + above(30, "u1") + "))", api.ErrMany}, {nil, "(> (* " + above(30, "u0") + ") (* " + above(31, "u0") + "))", 0},
	} {
		if _, err := with(t, big).Type(c.ctx, sample.Term(c.in)); err != c.err || len(c.ctx) > 0 && term.Nodes(c.ctx[0]) < 1998 {
			t.Error(i, err)
		}
	}
}

func TestP14_1Form(t *testing.T) {
	nat := sample.Term("nat")
	for i, c := range []struct {
		ctx []api.Term
		t   api.Term
	}{{nil, api.Term{}}, {nil, term.Var(0)}, {nats(1), term.Var(1)}, {sample.Terms("#0"), nat}, {sample.Terms("nat", "#1"), nat}, {[]api.Term{{}}, nat}, {nats(65), nat}, {nil, term.Const("A")}, {nil, term.Var(-1)}} {
		cv := with(t, 0)
		typ, err := cv.Type(c.ctx, c.t)
		_, serr := cv.Sort(c.ctx, c.t)
		proof, perr := cv.Proof(c.ctx, c.t)
		same, aerr := cv.Same(c.ctx, c.t, nat)
		back, berr := cv.Same(c.ctx, nat, c.t)
		if err != api.ErrForm || serr != api.ErrForm || perr != api.ErrForm || aerr != api.ErrForm || berr != api.ErrForm || proof || same || back || typ.Kind != 0 {
			t.Error(i, err, serr, perr, aerr, berr)
		}
	}
}

func TestP14_1Sort(t *testing.T) {
	for i, c := range []struct {
		in, want string
		err      api.Errno
		used     int
	}{{"nat", "1", 0, 2}, {"(> nat p)", "0", 0, 4}, {"p", "0", 0, 2}, {"hx", "0", 0, 3}, {"(* u0)", "(+ u0)", 0, 2}, {"a", "", api.ErrSort, 2}, {"unknown", "", api.ErrNone, 2}, {"(f a a)", "", api.ErrFunc, 4}, {nested(65, "\\", "a"), "", api.ErrMany, 66}} {
		cv := with(t, big)
		got, err := cv.Sort(nil, sample.Term(c.in))
		if err != c.err || err == api.OK && text.Level(got) != c.want || cv.Run().Used() != c.used || err != api.OK && !reflect.DeepEqual(got, api.Level{}) {
			t.Error(i, text.Level(got), err, cv.Run().Used())
		}
	}
}

func TestP14_2Proof(t *testing.T) {
	for i, c := range []struct {
		in   string
		want bool
		err  api.Errno
		used int
	}{{"h1", true, 0, 4}, {"a", false, 0, 4}, {"p", false, 0, 4}, {"ra", true, 0, 5}, {"unknown", false, 0, 2}, {"(f a a)", false, 0, 4}, {"(@ nat 0)", false, 0, 2}, {"(\\ nat h1)", true, 0, 7}, {"(> a nat)", false, 0, 3}, {"(\\ a #0)", false, 0, -1}, {nested(65, "\\", "a"), false, api.ErrMany, 66}} {
		cv := with(t, big)
		got, err := cv.Proof(nil, sample.Term(c.in))
		if got != c.want || err != c.err || c.used >= 0 && cv.Run().Used() != c.used {
			t.Error(i, got, err, cv.Run().Used())
		}
	}
}

var sameCases = []struct {
	a, b string
	want bool
	used int // -1: whatever it is
}{
	{"a", "a", true, 1}, {"loop", "loop", true, 1}, {"d", "a", true, 2}, {"(f d)", "(f a)", true, 3}, {"(f a)", "(f b)", false, 11}, {"a", "b", false, 5}, {"(f a)", "(g a)", false, 6}, {"(f a)", "f", false, -1}, {"(two d a)", "(two a d)", true, 5}, {"(two b a)", "(two a d)", false, -1},
	{"(* 0)", "(* 1)", false, -1}, {"(* (| u0 u1))", "(* (| u1 u0))", true, 1}, {"(@ k2 (| u0 u1) 0)", "(@ k2 (| u1 u0) 0)", true, 1}, {"(@ k2 u0 0)", "(@ k2 u1 0)", false, -1}, {"((@ c (| u0 u1)) nat)", "((@ c (| u1 u0)) nat)", true, 2}, {"((@ c u0) nat)", "((@ c u1) nat)", false, -1},
	{"(> nat nat)", "(> nat nat)", true, 1}, {"(> (r d) nat)", "(> (r a) nat)", true, 5}, {"(> nat (r d))", "(> nat (r #0))", false, -1}, {"(> nat p)", "(> nat q)", false, -1}, {"(> nat nat)", "(\\ nat nat)", false, -1}, {"(\\ nat (f d))", "(\\ nat (f a))", true, 5}, {"(\\ nat #0)", "(\\ nat a)", false, -1}, {"(\\ nat #0)", "(\\ p #0)", false, -1},
	{"(\\ nat (f #0))", "f", true, 2}, {"f", "(\\ nat (f #0))", true, 2}, {"(\\ nat (g #0))", "f", false, -1}, {"(\\ nat (\\ nat (two #1 #0)))", "two", true, 3}, {"(\\ nat (two #0 #0))", "(two a)", false, -1}, {"(* 0)", "(\\ nat nat)", false, -1},
	{"(by d a)", "(by a d)", true, 5}, {"(by a b)", "(by b b)", true, -1}, {"(by a b)", "(by a d)", false, -1}, {"((@ nat.rec 1) (\\ nat nat) b (\\ nat (\\ nat #0)) a)", "((@ nat.rec 1) (\\ nat nat) ((@ nat.rec 1) (\\ nat nat) b (\\ nat (\\ nat #0)) a) (\\ nat (\\ nat #0)) nat.z)", true, -1},
	{"h1", "h2", true, 10}, {"h1", "k", false, -1}, {"ra", "rd", true, 14}, {"h1", "a", false, -1}, {"a", "h1", false, 5}, {"(\\ nat h1)", "(\\ nat h2)", true, -1}, {"(= nat d h1)", "h2", true, 11}, {"((\\ nat (f #0)) a)", "(f d)", true, -1}, {"fun", "(> nat nat)", true, 4},
	{"((@ nat.rec 1) (\\ nat nat) a (\\ nat (\\ nat #0)) (nat.s nat.z))", "a", true, -1}, {"((@ nat.rec 1) (\\ nat nat) a (\\ nat (\\ nat #0)) a)", "((@ nat.rec 1) (\\ nat nat) a (\\ nat (\\ nat #0)) d)", true, -1},
}

func TestP14_2Same(t *testing.T) {
	for i, c := range sameCases {
		cv := with(t, big)
		got, err := cv.Same(nil, sample.Term(c.a), sample.Term(c.b))
		if got != c.want || err != api.OK || c.used >= 0 && cv.Run().Used() != c.used {
			t.Error(i, c.a, c.b, got, err, cv.Run().Used())
		}
		back, err := with(t, big).Same(nil, sample.Term(c.b), sample.Term(c.a))
		if back != c.want || err != api.OK {
			t.Error(i, c.b, c.a, back, err)
		}
	}
	ctx := sample.Terms("(> nat nat)", "nat", "p", "p")
	for i, c := range []struct {
		a, b string
		want bool
	}{{"(#3 #2)", "(#3 #2)", true}, {"(#3 d)", "(#3 a)", true}, {"(#3 a)", "(#3 b)", false}, {"#0", "#1", true}, {"#2", "a", false}, {"(\\ nat (#4 #0))", "#3", true}, {"#3", "f", false}} {
		if got, err := with(t, big).Same(ctx, sample.Term(c.a), sample.Term(c.b)); got != c.want || err != api.OK {
			t.Error(i, got, err)
		}
	}
}

func TestP14_3Many(t *testing.T) {
	half := "(f" + strings.Repeat(" a", 500) + ")"
	for i, c := range []struct {
		a, b string
		err  api.Errno
	}{{nested(64, "\\", "d"), nested(64, "\\", "a"), api.OK}, {nested(65, "\\", "d"), nested(65, "\\", "a"), api.ErrMany}, {"((\\ nat (#0 #0)) " + half + ")", "a", api.ErrMany}, {"a", "((\\ nat (#0 #0)) " + half + ")", api.ErrMany}, {"(f a ((\\ nat (#0 #0)) " + half + "))", "(f a a)", api.ErrMany}} {
		got, err := with(t, big).Same(nil, sample.Term(c.a), sample.Term(c.b))
		if err != c.err || got != (err == api.OK) {
			t.Error(i, got, err)
		}
	}
	if got, err := with(t, big).Same(nil, sample.Term("(f b ((\\ nat (#0 #0)) "+half+"))"), sample.Term("(f a a)")); got || err != api.OK {
		t.Error("what stands behind arguments that aren't one is asked", got, err)
	}
}

func TestP14_3MoreTicks(t *testing.T) {
	asks := []func(cv *Conv) (any, api.Errno){func(cv *Conv) (any, api.Errno) { return cv.Type(nil, sample.Term("(\\ nat (ff #0))")) }, func(cv *Conv) (any, api.Errno) { return cv.Sort(nil, sample.Term("(> nat (r d))")) }, func(cv *Conv) (any, api.Errno) { return cv.Proof(nil, sample.Term("(\\ nat h1)")) }}
	for _, c := range sameCases[:len(sameCases)-1] {
		asks = append(asks, func(cv *Conv) (any, api.Errno) { return cv.Same(nil, sample.Term(c.a), sample.Term(c.b)) })
	}
	for i, ask := range asks {
		full := with(t, big)
		want, err := ask(full)
		used := full.Run().Used()
		if err != api.OK {
			t.Error(i, err)
		}
		for n := range used + 2 {
			cv := with(t, n)
			got, err := ask(cv)
			if n < used && (err != api.ErrFuel || cv.Run().Left() != 0 || !reflect.ValueOf(got).IsZero()) || n >= used && (err != api.OK || !reflect.DeepEqual(got, want) || cv.Run().Used() != used) {
				t.Error(i, n, used, got, err)
			}
		}
	}
}

// TestP14_3WithoutEnd: questions that hang on others without end, end with the ticks, however deep they nest.
func TestP14_3WithoutEnd(t *testing.T) {
	for _, c := range [][2]string{{"loop", "pool"}, {"(f loop)", "pool"}, {"(\\ nat loop)", "(\\ nat (f pool))"}} {
		cv := with(t, big)
		if got, err := cv.Same(nil, sample.Term(c[0]), sample.Term(c[1])); got || err != api.ErrFuel || cv.Run().Left() != 0 {
			t.Error(got, err)
		}
	}
}

func TestP14_3IMax(t *testing.T) {
	for i, c := range [][3]string{{"3", "0", "0"}, {"u0", "(? 1 0)", "0"}, {"1", "1", "1"}, {"u0", "(+ u0)", "(+ u0)"}, {"0", "u0", "u0"}, {"2", "1", "(? 2 1)"}, {"u0", "u1", "(? u0 u1)"}} {
		if got := IMax(sample.Level(c[0]), sample.Level(c[1])); text.Level(got) != c[2] {
			t.Error(i, text.Level(got))
		}
	}
	if got := IMax(api.Level{Kind: 9}, api.Level{Kind: 8}); got.Kind != api.LIMax || got.Args[0].Kind != 9 {
		t.Error("of wrong ones")
	}
}

func TestP14_4NewMemory(t *testing.T) {
	ctx := sample.Terms("(> nat nat)", "(> nat nat)")
	for _, s := range []string{"(\\ (r a) (\\ (r a) #0))", "#0", "#1", "(= nat (f a) (\\ (r #0) #0))", "(> nat (r #0))"} {
		in := sample.Term(s)
		cv := with(t, big)
		typ, err := cv.Type(ctx, in)
		if err != api.OK {
			t.Error(s, err)
		}
		cv.Same(ctx, in, sample.Term("h1"))
		spoil(typ)
		if !term.Same(in, sample.Term(s)) || !term.Same(ctx[0], sample.Term("(> nat nat)")) || !term.Same(ctx[1], ctx[0]) {
			t.Error(s)
		}
	}
	lv := sample.Level("(+ u0)")
	got := IMax(sample.Level("0"), lv)
	got.Args[0].Kind = 99
	if text.Level(lv) != "(+ u0)" {
		t.Error("IMax shares memory")
	}
	room := append(make([]api.Term, 0, 9), sample.Term("nat"))
	with(t, big).Type(room, sample.Term("(\\ p #0)"))
	if room[:2][1].Kind != 0 {
		t.Error("what lies behind a context is changed")
	}
}

func spoil(t api.Term) {
	for i := range t.Args {
		spoil(t.Args[i])
		t.Args[i].Kind = 99
	}
}
