package posit

import (
	"math"
	"reflect"
	"slices"
	"strings"
	"testing"

	"scholium/api"
	"scholium/sample"
	"scholium/term"
	"scholium/text"
)

func texts(list []api.Term) string {
	var out []string
	for _, t := range list {
		out = append(out, text.Term(t))
	}
	return strings.Join(out, " ; ")
}

// vec: lists of a length, which is an index.
func vec() api.Decl {
	return sample.Ind("vec", 1, 1, "(> (* u0) (> nat (* u0)))", "vec.nil", "(> (* u0) ((@ vec u0) #0 nat.z))", "vec.cons", "(> (* u0) (> nat (> #1 (> ((@ vec u0) #2 #1) ((@ vec u0) #3 (nat.s #2))))))")
}

// tree: a family whose field has arms.
func tree() api.Decl {
	return sample.Ind("tree", 2, 1, "(> (* u1) (* (| u0 u1)))", "tree.node", "(> (* u1) (> #0 (> (> (* u0) (> #2 ((@ tree u0 u1) #3))) ((@ tree u0 u1) #2))))")
}

func TestP18_1Shape(t *testing.T) {
	f, err := Shape(vec())
	if err != api.OK || f.Indices != 1 || text.Level(f.Level) != "u0" || len(f.Ctors) != 2 {
		t.Fatal(f, err)
	}
	if c := f.Ctors[0]; len(c.Fields) != 0 || texts(c.Targets) != "nat.z" || len(c.Arms) != 0 {
		t.Error(c)
	}
	if c := f.Ctors[1]; texts(c.Fields) != "nat ; #1 ; ((@ vec u0) #2 #1)" || texts(c.Targets) != "(nat.s #2)" || !slices.Equal(c.Arms, []int{-1, -1, 0}) {
		t.Error(texts(c.Fields), texts(c.Targets), c.Arms)
	}
	f, err = Shape(tree())
	if err != api.OK || f.Indices != 0 || len(f.Ctors) != 1 || !slices.Equal(f.Ctors[0].Arms, []int{-1, 2}) || len(f.Ctors[0].Targets) != 0 {
		t.Error(f, err)
	}
	if f, err = Shape(sample.Ind("void", 0, 0, "(* 0)")); err != api.OK || len(f.Ctors) != 0 || text.Level(f.Level) != "0" {
		t.Error(f, err)
	}
}

// pis: n binders over a body.
func pis(n int, body string) string {
	return strings.Repeat("(> nat ", n) + body + strings.Repeat(")", n)
}

func one(typ, ctor string) api.Decl { return sample.Ind("f", 1, 1, typ, "f.c", ctor) }

func TestP18_1Errors(t *testing.T) {
	const typ = "(> (* u0) (> nat (* 1)))"
	const end = "((@ f u0) #0 nat.z)"
	four := vec()
	four.Params = 4
	fields := func(n int) string {
		return "(> (* u0) " + pis(n, "((@ f u0) #"+text.Term(term.Var(n))[1:]+" nat.z)") + ")"
	}
	long, fits := strings.Repeat("f", 37), strings.Repeat("f", 36)
	for i, c := range []struct {
		d   api.Decl
		err api.Errno
	}{
		{api.Decl{}, api.ErrForm}, {sample.Axiom("a", 0, "nat"), api.ErrForm}, {sample.Def("f", 0, "nat", "nat"), api.ErrForm}, {sample.Ind("f", 0, 17, "nat"), api.ErrForm}, {sample.Ind("A", 0, 0, "(* 1)"), api.ErrForm}, {one(typ, "#0"), api.ErrForm},
		{four, api.ErrMany}, {sample.Ind("f", 0, 1, pis(16, "(* 1)")), api.OK}, {sample.Ind("f", 0, 1, pis(17, "(* 1)")), api.ErrMany}, {sample.Ind("f", 0, 1, pis(17, "nat"), "f", "nat"), api.ErrMany},
		{sample.Ind("f", 0, 0, "nat", "f", "f"), api.ErrThere}, {sample.Ind("f", 0, 0, "nat", "f.c", "f", "f.c", "f"), api.ErrThere}, {sample.Ind("f", 0, 0, "nat", "f.rec", "f"), api.ErrThere}, {sample.Ind(long, 0, 0, "(* 1)"), api.ErrThere}, {sample.Ind(fits, 0, 0, "(* 1)"), api.OK},
		{sample.Ind("f", 0, 2, "(> nat (* 1))", "f.c", "f"), api.ErrSort}, {sample.Ind("f", 0, 0, "nat", "f.c", "nat"), api.ErrSort}, {sample.Ind("f", 0, 0, "(= (* 2) (* 1) #0)"), api.ErrSort}, {sample.Ind("f", 0, 0, "(> nat (\\ nat (* 1)))"), api.ErrSort},
		{one(typ, "(> (* u0) "+end+")"), api.OK}, {one(typ, "nat"), api.ErrType}, {one(typ, "(@ f u0)"), api.ErrType}, {sample.Ind("f", 0, 1, "(> nat (* 1))", "f.c", "(f nat)"), api.ErrType}, {one(typ, "(> (* u0) nat)"), api.ErrType}, {one(typ, "(> (* u0) ((@ f u0) #0))"), api.ErrType}, {one(typ, "(> (* u0) ((@ f u0) #0 nat.z nat.z))"), api.ErrType}, {one(typ, "(> (* u0) (f #0 nat.z))"), api.ErrType}, {one(typ, "(> (* u0) ((@ f (+ u0)) #0 nat.z))"), api.ErrType}, {one(typ, "(> (* u0) ((@ f (| u0 u0)) #0 nat.z))"), api.ErrType},
		{one(typ, "(> (* u0) ((@ f u0) nat nat.z))"), api.ErrType}, {one(typ, "(> (* u0) (> nat ((@ f u0) #0 nat.z)))"), api.ErrType}, {one(typ, "(> (* u0) ((@ f u0) #0 ((@ f u0) #0 nat.z)))"), api.ErrType}, {one(typ, "(> (* u0) (> nat (= nat nat.z ((@ f u0) #2 nat.z))))"), api.ErrType}, {one(typ, "(> (* u0) (\\ nat ((@ f u0) #1 nat.z)))"), api.ErrType},
		{one(typ, fields(16)), api.OK}, {one(typ, fields(17)), api.ErrMany}, {one(typ, "(> (* u0) (> ((@ f u0) #0 nat.z) ((@ f u0) #1 nat.z)))"), api.OK}, {one(typ, "(> (* u0) (> (q ((@ f u0) #0 nat.z)) ((@ f u0) #1 nat.z)))"), api.ErrPositive}, {one(typ, "(> (* u0) (> (> ((@ f u0) #0 nat.z) nat) ((@ f u0) #1 nat.z)))"), api.ErrPositive}, {one(typ, "(> (* u0) (> (> ((@ f u0) #0 nat.z) ((@ f u0) #1 nat.z)) ((@ f u0) #1 nat.z)))"), api.ErrPositive},
		{one(typ, "(> (* u0) (> ((@ f 0) #0 nat.z) ((@ f u0) #1 nat.z)))"), api.ErrPositive}, {one(typ, "(> (* u0) (> ((@ f u0) nat nat.z) ((@ f u0) #1 nat.z)))"), api.ErrPositive}, {one(typ, "(> (* u0) (> ((@ f u0) #0 ((@ f u0) #0 nat.z)) ((@ f u0) #1 nat.z)))"), api.ErrPositive}, {one(typ, "(> (* u0) (> (= (* 1) nat ((@ f u0) #1 nat.z)) ((@ f u0) #1 nat.z)))"), api.ErrPositive}, {one(typ, "(> (* u0) (> (> nat (> nat ((@ f u0) #2 nat.z))) ((@ f u0) #1 nat.z)))"), api.OK},
		{sample.Ind("f", 0, 0, "(* 1)", "f.a", "(> (> f nat) f)", "f.b", "nat"), api.ErrPositive}, {sample.Ind("f", 0, 0, "(* 1)", "f.b", "nat", "f.a", "(> (> f nat) f)"), api.ErrType}, {sample.Ind("f", 0, 0, "(* 1)", "f.a", "(> (> f nat) nat)"), api.ErrType},
	} {
		f, err := Shape(c.d)
		if err != c.err || err != api.OK && !reflect.DeepEqual(f, Family{}) {
			t.Error(i, err)
		}
	}
}

func TestP18_2Arms(t *testing.T) {
	d := one("(> (* u0) (> nat (* 1)))", "nat")
	for i, c := range []struct {
		field string
		deep  int
		arms  int
		err   api.Errno
	}{
		{"nat", 1, -1, 0}, {"(> nat #0)", 1, -1, 0}, {"((@ f u0) #0 nat.z)", 1, 0, 0}, {"((@ f u0) #4 #1)", 5, 0, 0}, {"(> nat (> #2 ((@ f u0) #4 #0)))", 3, 2, 0}, {"((@ f u0) #0 nat.z)", 2, 0, api.ErrPositive}, {"(> ((@ f u0) #0 nat.z) nat)", 1, 0, api.ErrPositive}, {"(q ((@ f u0) #0 nat.z))", 1, 0, api.ErrPositive}, {"(@ f u0)", 1, 0, api.ErrPositive}, {"f", 1, 0, api.ErrPositive},
		{"nat", 0, 0, api.ErrForm}, {"nat", -1, 0, api.ErrForm}, {"nat", 64, -1, 0}, {"nat", 65, 0, api.ErrForm}, {"nat", math.MaxInt, 0, api.ErrForm}, {"nat", math.MinInt, 0, api.ErrForm}, {"#1", 1, 0, api.ErrForm}, {"#0", 1, -1, 0}, {"(* u1)", 1, 0, api.ErrForm}, {"", 1, 0, api.ErrForm},
	} {
		if got, err := Arms(d, sample.Term(c.field), c.deep); got != c.arms || err != c.err {
			t.Error(i, got, err)
		}
	}
	for i, d := range []api.Decl{{}, sample.Axiom("a", 0, "nat"), sample.Ind("f", 0, 0, "nat"), sample.Ind("f", 0, 0, "(* 1)", "f", "nat"), sample.Ind("f", 4, 0, "(* 1)")} {
		if got, err := Arms(d, sample.Term("nat"), 3); got != 0 || err != api.ErrForm {
			t.Error(i, got, err)
		}
	}
}

func TestP18_3Large(t *testing.T) {
	for i, c := range []struct {
		level string
		ctors int
		want  bool
	}{{"1", 3, true}, {"0", 0, true}, {"0", 1, false}, {"u0", 1, false}, {"u0", 0, true}, {"(+ u0)", 2, true}, {"(? 1 u0)", 2, false}, {"(| u0 1)", 2, true}} {
		if got := Large(Family{Level: sample.Level(c.level), Ctors: make([]Ctor, c.ctors)}); got != c.want {
			t.Error(i, got)
		}
	}
	if Large(Family{Ctors: make([]Ctor, 1)}) || !Large(Family{}) {
		t.Error("without a level")
	}
}

func TestP18_4NewMemory(t *testing.T) {
	d := tree()
	f, _ := Shape(d)
	for _, x := range append(f.Ctors[0].Fields[:2:2], f.Ctors[0].Targets...) {
		spoil(x)
	}
	f.Level.Args[0].Kind = 99
	f.Ctors[0].Arms[0] = 9
	if !reflect.DeepEqual(d, tree()) {
		t.Error("changed")
	}
}

func spoil(t api.Term) {
	for i := range t.Args {
		spoil(t.Args[i])
		t.Args[i].Kind = 99
	}
}
