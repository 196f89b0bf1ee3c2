package text

import (
	"reflect"
	"strings"
	"testing"

	"scholium/api"
	"scholium/level"
	"scholium/term"
)

var (
	u, w = level.Param(0), level.Param(3)
	nat  = term.Const("nat")
)

var levels = []struct {
	l    api.Level
	text string
}{{level.Num(0), "0"}, {level.Num(100), "100"}, {u, "u0"}, {level.Succ(w), "(+ u3)"}, {level.Max(u, level.Num(7)), "(| u0 7)"}, {level.IMax(level.Succ(u), level.Max(u, u, w)), "(? (+ u0) (| u0 (| u0 u3)))"}}

var terms = []struct {
	t    api.Term
	text string
}{
	{term.Var(0), "#0"}, {term.Var(1<<50 - 1), "#1125899906842623"}, {term.Sort(level.Num(0)), "(* 0)"}, {term.Sort(level.Succ(u)), "(* (+ u0))"}, {nat, "nat"}, {term.Const("u0"), "u0"}, {term.Const("a.b_1", u, level.Succ(w)), "(@ a.b_1 u0 (+ u3))"},
	{term.App(nat, term.Var(1)), "(nat #1)"}, {term.App(nat, nat, term.App(term.Var(2), nat)), "(nat nat (#2 nat))"}, {term.App(term.Const("f", u), nat), "((@ f u0) nat)"}, {term.App(term.Lam(term.Var(0), nat), nat), "((\\ nat #0) nat)"},
	{term.Lam(term.Var(0), term.Sort(u), term.Var(0)), "(\\ (* u0) (\\ #0 #0))"}, {term.Pi(term.Sort(u), nat), "(> nat (* u0))"}, {term.Let(nat, term.Var(4), term.Var(0)), "(= nat #4 #0)"},
}

func TestP7_1Written(t *testing.T) {
	for _, c := range levels {
		if got := Level(c.l); got != c.text {
			t.Error(c.text, got)
		}
		if back, ok := ReadLevel(c.text); !ok || !reflect.DeepEqual(back, c.l) {
			t.Error(c.text, back)
		}
	}
	for _, c := range terms {
		if got := Term(c.t); got != c.text {
			t.Error(c.text, got)
		}
		if back, ok := ReadTerm(c.text); !ok || !reflect.DeepEqual(back, c.t) {
			t.Error(c.text, back)
		}
	}
	for _, l := range []api.Level{{}, level.Num(101), level.Param(4), {Kind: api.LSucc}} {
		if Level(l) != "" || Term(term.Sort(l)) != "" {
			t.Error(l)
		}
	}
	for _, x := range []api.Term{{}, term.Var(-1), term.Var(1 << 50), term.Const("A"), term.Const(""), {Kind: api.TApp}, term.App(nat, api.Term{})} {
		if Term(x) != "" {
			t.Error(x)
		}
	}
}

func TestP7_1WrongTexts(t *testing.T) {
	for _, s := range []string{"", " ", "a", "u", "u4", "u00", "-1", "+1", "01", "101", "(+ 1 2)", "(+ )", "(+)", "(+  1)", "(+ 1", "(| 1)", "(| 1 2 3)", "(? 1 2) ", " 1", "1 ", "(1)", "u-1", "u+1", "(+1)", "(/ 1 2)", "99999999999999999999", strings.Repeat("(+ ", 64) + "0" + strings.Repeat(")", 64)} {
		if l, ok := ReadLevel(s); ok || !reflect.DeepEqual(l, api.Level{}) {
			t.Errorf("%q: %v", s, l)
		}
	}
	for _, s := range []string{"", " ", "#", "#-1", "#01", "#+1", "#1125899906842624", "#99999999999999999999", "(*)", "(* )", "(* 0 0)", "(* u9)", "(a)", "()", "((f a) b)", "( a b)", "(a b )", "(a  b)", "(a b", "a b", "a)", "(a b))", "(@ a)", "(@ )", "(@)", "(@ a 0 0 0 0 0)", "(@ A 0)", "(\\ a)", "(\\ a b c)", "(\\a b)", "(> a)", "(= a b)", "(= a b c d)", "(=)", "A", "é", "a..b", "1", "(a\tb)", "(a b)\n", "\x00", strings.Repeat("a", 41), strings.Repeat("(", 20000), strings.Repeat("(\\ ", 6000)} {
		if x, ok := ReadTerm(s); ok || !reflect.DeepEqual(x, api.Term{}) {
			t.Errorf("%.50q: %v", s, x)
		}
	}
}

// args: f applied to n args of so many bytes.
func args(n, size int) string {
	return "(f" + strings.Repeat(" "+strings.Repeat("a", size), n) + ")"
}

func TestP7_1Bounds(t *testing.T) {
	for i, c := range []struct {
		s    string
		want bool
	}{{args(999, 1), true}, {args(1000, 1), false}, {args(487, 40), true}, {args(499, 40), false}} {
		got, ok := ReadTerm(c.s)
		if ok != c.want || ok && Term(got) != c.s {
			t.Error(i, len(c.s), ok)
		}
	}
	at := "(f" + strings.Repeat(" "+strings.Repeat("a", 40), 487) + " " + strings.Repeat("b", 29) + ")"
	if _, ok := ReadTerm(at); len(at) != 20000 || !ok {
		t.Error(len(at), ok)
	}
	at = strings.Replace(at, "b)", "bb)", 1)
	if _, ok := ReadTerm(at); len(at) != 20001 || ok {
		t.Error(len(at), ok)
	}
	if _, ok := ReadLevel(strings.Repeat("(", 30000)); ok {
		t.Error("long")
	}
}

func TestP7_2Decl(t *testing.T) {
	ctors := []api.Ctor{{Name: "n.z", Type: nat}, {Name: "", Type: term.Pi(nat, nat)}}
	for i, c := range []struct {
		d    api.Decl
		want string
	}{
		{api.Decl{Kind: api.DAxiom, Name: "a", Params: 2, Type: nat, Value: api.Term{Kind: 9}}, "axiom a 2 nat"}, {api.Decl{Kind: api.DDef, Name: "d", Type: nat, Value: term.Var(0)}, "def d 0 nat := #0"}, {api.Decl{Kind: api.DThm, Name: "A b", Params: -1, Type: nat, Value: nat}, "thm A b -1 nat := nat"}, {api.Decl{Kind: api.DOpaque, Name: "o", Type: nat, Value: nat, Fixed: 4}, "opaque o 0 nat := nat"},
		{api.Decl{Kind: api.DInd, Name: "n", Params: 1, Type: nat, Fixed: 3}, "ind n 1 nat 3"}, {api.Decl{Kind: api.DInd, Name: "n", Type: nat, Ctors: ctors}, "ind n 0 nat 0 [n.z nat] [ (> nat nat)]"},
		{api.Decl{Name: "a", Type: nat}, ""}, {api.Decl{Kind: 6, Name: "a", Type: nat}, ""}, {api.Decl{Kind: api.DAxiom, Name: "a"}, ""}, {api.Decl{Kind: api.DDef, Name: "a", Type: nat}, ""}, {api.Decl{Kind: api.DInd, Name: "a", Type: nat, Ctors: []api.Ctor{{Name: "b"}}}, ""},
	} {
		if got := Decl(c.d); got != c.want {
			t.Errorf("%d: %q", i, got)
		}
	}
}

func TestP7_3OneText(t *testing.T) {
	seen := map[string]int{}
	for i, c := range terms {
		if j, ok := seen[Term(c.t)]; ok {
			t.Error(i, j)
		}
		seen[Term(c.t)] = i
		keep := term.App(c.t)
		back, _ := ReadTerm(Term(c.t))
		if !term.Same(keep, c.t) || !term.Same(back, keep) {
			t.Error(i)
		}
	}
	// each text that is read is the one that is written
	pieces := []string{"(", ")", " ", "#0", "a", "(*", "u0", "(\\", "@"}
	var try func(s string, n int)
	try = func(s string, n int) {
		if x, ok := ReadTerm(s); ok && Term(x) != s {
			t.Errorf("%q", s)
		}
		for _, p := range pieces {
			if n > 0 {
				try(s+p, n-1)
			}
		}
	}
	try("", 5)
}
