package pack

import (
	"bytes"
	"reflect"
	"slices"
	"strings"
	"testing"

	"scholium/api"
	"scholium/level"
	"scholium/term"
)

var (
	u, w = level.Param(0), level.Param(3)
	nat  = term.Const("nat")
	prop = term.Sort(level.Num(0))
)

func axiom(typ api.Term) api.Decl { return api.Decl{Kind: api.DAxiom, Name: "a", Type: typ} }

func def(kind int, value api.Term) api.Decl {
	return api.Decl{Kind: kind, Name: "d.e", Params: 1, Type: term.Sort(u), Value: value}
}

func ind(n int) api.Decl {
	d := api.Decl{Kind: api.DInd, Name: "n", Type: prop, Fixed: 16}
	for range n {
		d.Ctors = append(d.Ctors, api.Ctor{Name: "n.z", Type: nat})
	}
	return d
}

// tower: a term of n nodes, an odd number.
func tower(n int) api.Term {
	t := nat
	for range n / 2 {
		t = api.Term{Kind: api.TLam, Args: []api.Term{nat, t}}
	}
	return t
}

func wrongLevels() []api.Level {
	return []api.Level{{}, level.Num(101), level.Num(-1), level.Param(4), {Kind: api.LSucc}, {Kind: api.LMax, Args: []api.Level{u}}, {Kind: 6}}
}

func wrongTerms() []api.Term {
	out := []api.Term{{}, term.Var(1 << 40), term.Lam(term.Var(1<<40), nat), term.Var(-1), term.Var(1 << 60), term.Const("A"), term.Const("a", u, u, u, u, u), {Kind: api.TApp}, tower(2001), {Kind: 8}}
	for _, l := range wrongLevels() {
		out = append(out, term.Sort(l))
	}
	return out
}

func TestP8_1LevelAndTermBytes(t *testing.T) {
	for i, c := range []struct {
		l    api.Level
		want string
	}{{level.Num(0), "\x01\x00"}, {w, "\x02\x03"}, {level.Succ(u), "\x03\x02\x00"}, {level.Max(u, level.Num(100)), "\x04\x02\x00\x01\x64"}, {level.IMax(level.Num(1), u), "\x05\x01\x01\x02\x00"}} {
		if got, ok := Level(c.l); !ok || string(got) != c.want {
			t.Errorf("%d: %q", i, got)
		}
	}
	for i, c := range []struct {
		t    api.Term
		want string
	}{
		{term.Var(5), "\x01\x05"}, {term.Var(300), "\x01\xac\x02"}, {term.Var(1<<40 - 1), "\x01\xff\xff\xff\xff\xff\x1f"}, {prop, "\x02\x01\x00"}, {nat, "\x03\x03nat\x00"}, {term.Const("a.b", u, level.Num(2)), "\x03\x03a.b\x02\x02\x00\x01\x02"},
		{term.App(nat, term.Var(0)), "\x04\x03\x03nat\x00\x01\x00"}, {term.Lam(term.Var(0), term.Var(1)), "\x05\x01\x01\x01\x00"}, {term.Pi(term.Var(0), term.Var(1)), "\x06\x01\x01\x01\x00"}, {term.Let(term.Var(1), term.Var(2), term.Var(3)), "\x07\x01\x01\x01\x02\x01\x03"},
	} {
		if got, ok := Term(c.t); !ok || string(got) != c.want {
			t.Errorf("%d: %q", i, got)
		}
	}
	for i, l := range wrongLevels() {
		if got, ok := Level(l); ok || len(got) != 0 {
			t.Error(i, got)
		}
	}
	for i, x := range wrongTerms() {
		if got, ok := Term(x); ok || len(got) != 0 {
			t.Error(i, got)
		}
	}
}

func TestP8_1DeclBytes(t *testing.T) {
	one := ind(1)
	one.Fixed = 2
	for i, c := range []struct {
		d    api.Decl
		want string
	}{{axiom(prop), "\x01\x01a\x00\x02\x01\x00"}, {def(api.DDef, nat), "\x02\x03d.e\x01\x02\x02\x00\x03\x03nat\x00"}, {def(api.DThm, nat), "\x03\x03d.e\x01\x02\x02\x00\x03\x03nat\x00"}, {def(api.DOpaque, prop), "\x04\x03d.e\x01\x02\x02\x00\x02\x01\x00"}, {one, "\x05\x01n\x00\x02\x01\x00\x02\x01\x03n.z\x03\x03nat\x00"}, {ind(0), "\x05\x01n\x00\x02\x01\x00\x10\x00"}} {
		if got, ok := Decl(c.d); !ok || string(got) != c.want || !Formed(c.d) {
			t.Errorf("%d: %q", i, got)
		}
	}
}

func wrongDecls() []api.Decl {
	with := func(d api.Decl, change func(d *api.Decl)) api.Decl {
		change(&d)
		return d
	}
	out := []api.Decl{{}, axiom(api.Term{}), axiom(term.Var(0)), axiom(term.Sort(u)), def(api.DDef, api.Term{}), def(api.DThm, term.Var(0)), def(api.DOpaque, term.Sort(level.Param(1))), ind(9)}
	for _, change := range []func(d *api.Decl){
		func(d *api.Decl) { d.Kind = 0 }, func(d *api.Decl) { d.Kind = 6 }, func(d *api.Decl) { d.Kind = -1 }, func(d *api.Decl) { d.Name = "" }, func(d *api.Decl) { d.Name = "1" }, func(d *api.Decl) { d.Params = -1 }, func(d *api.Decl) { d.Params = 5 },
		func(d *api.Decl) { d.Value = nat }, func(d *api.Decl) { d.Value = api.Term{N: 1} }, func(d *api.Decl) { d.Value = api.Term{Name: "a"} }, func(d *api.Decl) { d.Fixed = 1 }, func(d *api.Decl) { d.Ctors = ind(1).Ctors },
	} {
		out = append(out, with(axiom(prop), change))
	}
	for _, change := range []func(d *api.Decl){
		func(d *api.Decl) { d.Fixed = -1 }, func(d *api.Decl) { d.Fixed = 17 }, func(d *api.Decl) { d.Value = nat }, func(d *api.Decl) { d.Ctors[0].Name = "" }, func(d *api.Decl) { d.Ctors[0].Name = "A" }, func(d *api.Decl) { d.Ctors[0].Type = term.Var(0) }, func(d *api.Decl) { d.Ctors[0].Type = term.Sort(u) }, func(d *api.Decl) { d.Kind = api.DDef },
	} {
		out = append(out, with(ind(1), change))
	}
	return append(out, with(def(api.DDef, nat), func(d *api.Decl) { d.Fixed = 1 }))
}

func TestP8_1Formed(t *testing.T) {
	for i, d := range wrongDecls() {
		if got, ok := Decl(d); ok || len(got) != 0 || Formed(d) || Hash(d) != 0 {
			t.Error(i, got)
		}
	}
	eight := ind(8)
	eight.Params, eight.Value.Levels = 4, []api.Level{}
	if !Formed(eight) {
		t.Error("eight constructors, four parameters")
	}
	eight.Fixed = 0
	if !Formed(eight) {
		t.Error("no parameters")
	}
}

func TestP8_2Taken(t *testing.T) {
	for _, tail := range []string{"", "\x00", "\xff\xff"} {
		l, rest, ok := TakeLevel([]byte("\x04\x02\x00\x01\x64" + tail))
		if !ok || !reflect.DeepEqual(l, level.Max(u, level.Num(100))) || string(rest) != tail {
			t.Error(l, rest)
		}
		for _, x := range []api.Term{term.Var(1<<40 - 1), prop, term.Const("a.b", u, w), term.Let(nat, term.App(nat, nat), term.Pi(nat, nat)), tower(1999), term.Let(nat, nat, tower(1997))} {
			b, _ := Term(x)
			got, rest, ok := TakeTerm(append(b, tail...))
			if !ok || !reflect.DeepEqual(got, x) || string(rest) != tail {
				t.Error(x)
			}
		}
		for _, d := range []api.Decl{axiom(prop), def(api.DDef, tower(1999)), def(api.DThm, nat), def(api.DOpaque, nat), ind(0), ind(8)} {
			b, _ := Decl(d)
			got, rest, ok := TakeDecl(append(b, tail...))
			if !ok || !reflect.DeepEqual(got, d) || string(rest) != tail {
				t.Error(got)
			}
		}
	}
}

func TestP8_2WrongBytes(t *testing.T) {
	long := strings.Repeat("a", 41)
	for _, s := range []string{"", "\x00", "\x06\x00", "\x01", "\x01\x65", "\x02\x04", "\x03", "\x04\x01\x00", "\x81\x00\x00", "\x01\x80\x00", strings.Repeat("\x03", 64) + "\x01\x00", strings.Repeat("\x03", 1<<23)} {
		if l, rest, ok := TakeLevel([]byte(s)); ok || l.Kind != 0 || len(rest) != 0 {
			t.Errorf("%.20q: %v", s, l)
		}
	}
	for _, s := range []string{"", "\x00", "\x08\x00", "\x01", "\x01\x80\x80\x80\x80\x80\x20", "\x02", "\x02\x02\x04", "\x03\x00\x00", "\x03\x01A\x00", "\x03\x29" + long + "\x00", "\x03\x01a\x05\x01\x00\x01\x00\x01\x00\x01\x00\x01\x00", "\x03\x01a\xff\xff\xff\xff\xff\x1f", "\x03\x01a", "\x04\x01\x00", "\x07\x01\x00\x01\x00", strings.Repeat("\x04", 1<<23), "\x03\x81\x00a\x00"} {
		if x, rest, ok := TakeTerm([]byte(s)); ok || x.Kind != 0 || len(rest) != 0 {
			t.Errorf("%.20q: %v", s, x)
		}
	}
	whole, _ := Decl(ind(2))
	for n := range whole {
		if d, rest, ok := TakeDecl(whole[:n]); ok || d.Kind != 0 || len(rest) != 0 {
			t.Error(n, d)
		}
	}
	for _, s := range []string{"\x00\x01a\x00\x02\x01\x00", "\x06\x01a\x00\x02\x01\x00", "\x01\x01A\x00\x02\x01\x00", "\x01\x01a\x05\x02\x01\x00", "\x01\x01a\x00\x01\x00", "\x05\x01n\x00\x02\x01\x00\x11\x00", "\x05\x01n\x00\x02\x01\x00\x00\x09", "\x05\x01n\x00\x02\x01\x00\x00\xff\xff\xff\xff\xff\x1f"} {
		if d, rest, ok := TakeDecl([]byte(s)); ok || d.Kind != 0 || len(rest) != 0 {
			t.Errorf("%q: %v", s, d)
		}
	}
}

func TestP8_2Hash(t *testing.T) {
	for _, d := range []api.Decl{axiom(prop), ind(2), def(api.DDef, nat)} {
		b, _ := Decl(d)
		want := uint64(14695981039346656037)
		for _, c := range b {
			want ^= uint64(c)
			want *= 1099511628211
		}
		if Hash(d) != want {
			t.Error(Hash(d), want)
		}
	}
	if Hash(axiom(prop)) == Hash(axiom(nat)) {
		t.Error("two declarations, one number")
	}
}

func TestP8_3OneRow(t *testing.T) {
	alphabet := []byte{0, 1, 2, 3, 4, 5, 'a', 128, 129}
	var try func(b []byte, n int)
	try = func(b []byte, n int) {
		if x, rest, ok := TakeTerm(b); ok {
			if back, ok := Term(x); !ok || !bytes.Equal(append(back, rest...), b) {
				t.Fatalf("%q", b)
			}
		}
		if x, rest, ok := TakeLevel(b); ok {
			if back, ok := Level(x); !ok || !bytes.Equal(append(back, rest...), b) {
				t.Fatalf("%q", b)
			}
		}
		if d, rest, ok := TakeDecl(append([]byte("\x01\x01a"), b...)); ok {
			if back, ok := Decl(d); !ok || !bytes.Equal(append(back[3:], rest...), b) {
				t.Fatalf("%q", b)
			}
		}
		for _, c := range alphabet {
			if n > 0 {
				try(append(b, c), n-1)
			}
		}
	}
	try(nil, 5)
}

func TestP8_3NewMemory(t *testing.T) {
	in := []byte("\x04\x03\x01a\x00\x01\x00rest")
	keep := slices.Clone(in)
	x, rest, _ := TakeTerm(in)
	for i := range rest[:cap(rest)] {
		rest[:cap(rest)][i] = 'x'
	}
	if !bytes.Equal(in, keep) {
		t.Error(in)
	}
	for i := range in {
		in[i] = 'y'
	}
	if !term.Same(x, term.App(term.Const("a"), term.Var(0))) {
		t.Error("kept")
	}
	d := ind(2)
	b, _ := Decl(d)
	b[0] = 99
	if !reflect.DeepEqual(d, ind(2)) {
		t.Error("changed")
	}
}
