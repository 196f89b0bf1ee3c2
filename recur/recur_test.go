package recur

import (
	"reflect"
	"strings"
	"testing"

	"scholium/api"
	"scholium/decl"
	"scholium/env"
	"scholium/infer"
	"scholium/posit"
	"scholium/sample"
	"scholium/tele"
	"scholium/term"
	"scholium/text"
	"scholium/whnf"
)

func vec() api.Decl {
	return sample.Ind("vec", 1, 1, "(> (* (+ u0)) (> nat (* (+ u0))))", "vec.nil", "(> (* (+ u0)) ((@ vec u0) #0 nat.z))", "vec.cons", "(> (* (+ u0)) (> nat (> #1 (> ((@ vec u0) #2 #1) ((@ vec u0) #3 (nat.s #2))))))")
}

func tree() api.Decl {
	return sample.Ind("tree", 0, 0, "(* 1)", "tree.leaf", "tree", "tree.node", "(> (> nat (> nat tree)) (> nat (> tree tree)))")
}

func eq() api.Decl {
	return sample.Ind("eq", 1, 2, "(> (* u0) (> #0 (> #1 (* 0))))", "eq.refl", "(> (* u0) (> #0 ((@ eq u0) #1 #0 #0)))")
}

func exists() api.Decl {
	return sample.Ind("ex", 1, 2, "(> (* u0) (> (> #0 (* 0)) (* 0)))", "ex.intro", "(> (* u0) (> (> #0 (* 0)) (> #1 (> (#1 #0) ((@ ex u0) #3 #2)))))")
}

func boolean() api.Decl {
	return sample.Ind("bool", 0, 0, "(* 1)", "bool.t", "bool", "bool.f", "bool")
}

func TestP19_1Types(t *testing.T) {
	for i, c := range []struct {
		d      api.Decl
		large  bool
		params int
		typ    string
		rules  []string
	}{
		{boolean(), true, 1, "(> (> bool (* u0)) (> (#0 bool.t) (> (#1 bool.f) (> bool (#3 #0)))))", []string{"(\\ (> bool (* u0)) (\\ (#0 bool.t) (\\ (#1 bool.f) #1)))", "(\\ (> bool (* u0)) (\\ (#0 bool.t) (\\ (#1 bool.f) #0)))"}},
		{boolean(), false, 0, "(> (> bool (* 0)) (> (#0 bool.t) (> (#1 bool.f) (> bool (#3 #0)))))", []string{"(\\ (> bool (* 0)) (\\ (#0 bool.t) (\\ (#1 bool.f) #1)))", "(\\ (> bool (* 0)) (\\ (#0 bool.t) (\\ (#1 bool.f) #0)))"}},
		{vec(), true, 2, "(> (* (+ u0)) (> (> nat (> ((@ vec u0) #1 #0) (* u1))) (> (#0 nat.z ((@ vec.nil u0) #1)) (> (> nat (> #3 (> ((@ vec u0) #4 #1) (> (#4 #2 #0) (#5 (nat.s #3) ((@ vec.cons u0) #6 #3 #2 #1)))))) (> nat (> ((@ vec u0) #4 #0) (#4 #1 #0)))))))", []string{"", "(\\ (* (+ u0)) (\\ (> nat (> ((@ vec u0) #1 #0) (* u1))) (\\ (#0 nat.z ((@ vec.nil u0) #1)) (\\ (> nat (> #3 (> ((@ vec u0) #4 #1) (> (#4 #2 #0) (#5 (nat.s #3) ((@ vec.cons u0) #6 #3 #2 #1)))))) (\\ nat (\\ #4 (\\ ((@ vec u0) #5 #1) (#3 #2 #1 #0 ((@ vec.rec u0 u1) #6 #5 #4 #3 #2 #0)))))))))"}},
		{tree(), true, 1, "(> (> tree (* u0)) (> (#0 tree.leaf) (> (> (> nat (> nat tree)) (> nat (> tree (> (> nat (> nat (#6 (#4 #1 #0)))) (> (#5 #1) (#6 (tree.node #4 #3 #2))))))) (> tree (#3 #0)))))", []string{"", "(\\ (> tree (* u0)) (\\ (#0 tree.leaf) (\\ (> (> nat (> nat tree)) (> nat (> tree (> (> nat (> nat (#6 (#4 #1 #0)))) (> (#5 #1) (#6 (tree.node #4 #3 #2))))))) (\\ (> nat (> nat tree)) (\\ nat (\\ tree (#3 #2 #1 #0 (\\ nat (\\ nat ((@ tree.rec u0) #7 #6 #5 (#4 #1 #0)))) ((@ tree.rec u0) #5 #4 #3 #0))))))))"}},
		{sample.Ind("void", 0, 0, "(* 0)"), true, 1, "(> (> void (* u0)) (> void (#1 #0)))", nil}, {eq(), true, 2, "(> (* u0) (> #0 (> (> #1 (> ((@ eq u0) #2 #1 #0) (* u1))) (> (#0 #1 ((@ eq.refl u0) #2 #1)) (> #3 (> ((@ eq u0) #4 #3 #0) (#3 #1 #0)))))))", []string{"(\\ (* u0) (\\ #0 (\\ (> #1 (> ((@ eq u0) #2 #1 #0) (* u1))) (\\ (#0 #1 ((@ eq.refl u0) #2 #1)) #0))))"}},
	} {
		rec, err := Build(c.d, c.large)
		if err != api.OK || rec.Name != c.d.Name+".rec" || rec.Params != c.params || text.Term(rec.Type) != c.typ || len(rec.Rules) != len(c.d.Ctors) {
			t.Error(i, rec.Name, rec.Params, text.Term(rec.Type), err)
			continue
		}
		for j, want := range c.rules {
			if got := text.Term(rec.Rules[j]); want != "" && got != want {
				t.Error(i, j, got)
			}
		}
	}
}

func TestP19_1Errors(t *testing.T) {
	// fields of many nodes each: the constructor fits, the minor with all that is known of them doesn't
	arms := func(n int) string { return strings.Repeat("(> nat ", n) + "f" + strings.Repeat(")", n) }
	for i, c := range []struct {
		d   api.Decl
		err api.Errno
	}{
		{api.Decl{}, api.ErrForm}, {sample.Axiom("a", 0, "nat"), api.ErrForm}, {sample.Ind("f", 4, 0, "(* 1)"), api.ErrMany}, {sample.Ind("f", 0, 0, "(* 1)", "f", "f"), api.ErrThere}, {sample.Ind("f", 0, 0, "nat"), api.ErrSort}, {sample.Ind("f", 0, 0, "(* 1)", "f.c", "nat"), api.ErrType}, {sample.Ind("f", 0, 0, "(* 1)", "f.c", "(> (> f nat) f)"), api.ErrPositive},
		{sample.Ind("f", 0, 0, "(* 1)", "f.c", "(> "+arms(150)+" f)"), api.OK}, {sample.Ind("f", 0, 0, "(* 1)", "f.c", "(> "+arms(900)+" f)"), api.ErrMany},
	} {
		rec, err := Build(c.d, true)
		list, lerr := Entries(c.d, true)
		if err != c.err || lerr != c.err || err != api.OK && (!reflect.DeepEqual(rec, Rec{}) || len(list) != 0) {
			t.Error(i, err, lerr)
		}
	}
}

// TestP19_1Names: what the builder calls its locals collides with no name.
func TestP19_1Names(t *testing.T) {
	plain, _ := Build(sample.Ind("n", 0, 0, "(* 1)", "n.z", "n", "n.s", "(> n (> l5.x0 n))"), true)
	for i, names := range [][3]string{{"l0", "l0.x0", "l0.x1"}, {"a", "l0.x0", "l0.x2"}, {"a", "l1.x0", "l0"}, {"l0.x1", "l2", "l3.x7"}} {
		rec, err := Build(sample.Ind(names[0], 0, 0, "(* 1)", names[1], names[0], names[2], "(> "+names[0]+" (> l5.x0 "+names[0]+"))"), true)
		back := rec.Type
		for j, n := range names {
			back, _ = replaceConst(back, n, []string{"n", "n.z", "n.s"}[j])
		}
		if err != api.OK || !term.Same(back, plain.Type) {
			t.Error(i, text.Term(back), err)
		}
	}
}

func replaceConst(t api.Term, from, to string) (api.Term, bool) {
	t = term.App(t)
	var walk func(t *api.Term)
	walk = func(t *api.Term) {
		if t.Kind == api.TConst && t.Name == from {
			t.Name = to
		}
		for i := range t.Args {
			walk(&t.Args[i])
		}
	}
	walk(&t)
	return t, true
}

func TestP19_2Entries(t *testing.T) {
	got, err := Entries(sample.Nat(), true)
	want := sample.NatEntries()
	if err != api.OK || len(got) != len(want) {
		t.Fatal(got, err)
	}
	for i := range want {
		if !decl.Same(got[i], want[i]) || !decl.Right(got[i]) {
			t.Error(i, got[i])
		}
	}
	got, err = Entries(vec(), false)
	if err != api.OK || len(got) != 4 {
		t.Fatal(err)
	}
	rec, _ := Build(vec(), false)
	cons := api.Entry{Kind: api.ECtor, Params: 1, Name: "vec.cons", Type: vec().Ctors[1].Type, Value: rec.Rules[1], Family: "vec", Fixed: 1, Index: 1, Fields: 3}
	last := api.Entry{Kind: api.ERec, Params: 1, Name: "vec.rec", Type: rec.Type, Family: "vec", Fixed: 1, Index: 1, Ctors: []string{"vec.nil", "vec.cons"}}
	first := api.Entry{Kind: api.DInd, Params: 1, Name: "vec", Type: vec().Type, Fixed: 1, Ctors: []string{"vec.nil", "vec.cons"}}
	for i, e := range map[int]api.Entry{0: first, 2: cons, 3: last} {
		if !decl.Same(got[i], e) || !decl.Right(e) {
			t.Error(i, got[i])
		}
	}
}

// TestP19_3Typed: all entries' types are of sorts, and the rules are of the types that they should have.
func TestP19_3Typed(t *testing.T) {
	for i, c := range []struct {
		d     api.Decl
		large bool
	}{{boolean(), true}, {boolean(), false}, {vec(), true}, {vec(), false}, {tree(), true}, {eq(), true}, {eq(), false}, {exists(), false}, {sample.Ind("void", 0, 0, "(* 0)"), true}, {sample.Nat(), true}} {
		v, _ := env.New().Add(sample.NatEntries()...)
		if c.d.Name == "nat" {
			v = env.New()
		}
		list, _ := Entries(c.d, c.large)
		v, err := v.Add(list...)
		if err != api.OK {
			t.Fatal(i, err)
		}
		run, _ := whnf.New(v, api.MaxFuel)
		x := infer.New(run)
		for _, e := range list {
			if _, err := x.Sort(nil, e.Type); err != api.OK {
				t.Error(i, e.Name, err)
			}
		}
		rec := list[len(list)-1]
		for j := range c.d.Ctors {
			if err := x.Check(nil, list[1+j].Value, ruleType(c.d, rec, j)); err != api.OK {
				t.Error(i, j, err, text.Term(ruleType(c.d, rec, j)))
			}
		}
	}
}

// ruleType: for all parameters, the motive, the minors and the constructor's fields: the motive of its targets, and of it.
func ruleType(d api.Decl, rec api.Entry, at int) api.Term {
	form, _ := posit.Shape(d)
	names := []string{"p0", "p1", "p2", "p3"}[:d.Fixed]
	lead := append(append([]string{}, names...), []string{"mot", "m0", "m1", "m2"}[:1+len(d.Ctors)]...)
	locals, _, _ := tele.Open(rec.Type, api.TPi, lead...)
	fields := []string{"f0", "f1", "f2", "f3"}[:len(form.Ctors[at].Fields)]
	own, body, _ := tele.Open(d.Ctors[at].Type, api.TPi, append(append([]string{}, names...), fields...)...)
	head, args := term.Spine(body)
	made := term.App(term.Const(d.Ctors[at].Name, head.Levels...), tele.Consts(own)...)
	out, _ := tele.Close(api.TPi, term.App(term.App(term.Const("mot"), args[d.Fixed:]...), made), append(locals, own[d.Fixed:]...)...)
	return out
}

func TestP19_3NewMemory(t *testing.T) {
	d := vec()
	rec, _ := Build(d, true)
	list, _ := Entries(d, true)
	for _, e := range list {
		spoil(e.Type)
		spoil(e.Value)
		for i := range e.Ctors {
			e.Ctors[i] = "changed"
		}
	}
	for _, r := range append(rec.Rules, rec.Type) {
		spoil(r)
	}
	if !reflect.DeepEqual(d, vec()) {
		t.Error("changed")
	}
	list, _ = Entries(d, true)
	list[0].Ctors[0] = "changed"
	if list[3].Ctors[0] != "vec.nil" {
		t.Error("two lists of one answer share memory")
	}
}

func spoil(t api.Term) {
	for i := range t.Args {
		spoil(t.Args[i])
		t.Args[i].Kind = 99
	}
}
