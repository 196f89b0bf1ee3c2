package tree

import (
	"maps"
	"math"
	"math/bits"
	"math/rand"
	"slices"
	"strconv"
	"testing"
)

// check holds a tree against a map.
func check(t *testing.T, tr *Tree, want map[string]int) {
	t.Helper()
	names := slices.Sorted(maps.Keys(want))
	if !slices.Equal(tr.Names(), names) || tr.Len() != len(names) || tr.Depth() > 2*bits.Len(uint(len(names)+1)) || tr.Shares(tr) != len(names) {
		t.Fatal(tr.Names(), names, tr.Depth())
	}
	for n, x := range want {
		if got, ok := tr.Get(n); got != x || !ok {
			t.Fatal(n, got, ok)
		}
	}
	if got, ok := tr.Get("absent"); got != 0 || ok {
		t.Fatal(got, ok)
	}
}

func TestP10_1Told(t *testing.T) {
	empty := New()
	check(t, empty, nil)
	one := empty.Put("b", 1)
	two := one.Put("a", 2).Put("", -7).Put("\xff", math.MinInt)
	check(t, one, map[string]int{"b": 1})
	check(t, two, map[string]int{"b": 1, "a": 2, "": -7, "\xff": math.MinInt})
	check(t, two.Put("b", 9), map[string]int{"b": 9, "a": 2, "": -7, "\xff": math.MinInt})
	check(t, two.Drop("b").Drop("x").Drop("b"), map[string]int{"a": 2, "": -7, "\xff": math.MinInt})
	check(t, empty.Drop("x"), nil)
	check(t, one.Drop("b"), nil)
}

func TestP10_1From(t *testing.T) {
	tr := New()
	for _, s := range []string{"b", "d", "a", "c", "e"} {
		tr = tr.Put(s, 1)
	}
	for i, c := range []struct {
		from string
		most int
		want []string
	}{{"", 9, []string{"a", "b", "c", "d", "e"}}, {"b", 2, []string{"b", "c"}}, {"bb", math.MaxInt, []string{"c", "d", "e"}}, {"e", 5, []string{"e"}}, {"f", 5, nil}, {"", 0, nil}, {"", -1, nil}, {"", math.MinInt, nil}, {"", 1, []string{"a"}}} {
		if got := tr.From(c.from, c.most); !slices.Equal(got, c.want) {
			t.Error(i, got)
		}
	}
	if len(New().From("", 3)) != 0 {
		t.Error("of none")
	}
}

func TestP10_2DepthInOrder(t *testing.T) {
	up, down := New(), New()
	for n := range 3000 {
		s := strconv.Itoa(10000 + n)
		up, down = up.Put(s, n), down.Put(strconv.Itoa(10000-n), n)
		if most := 2 * bits.Len(uint(n+2)); up.Depth() > most || down.Depth() > most || up.Depth() < bits.Len(uint(n+1)) {
			t.Fatal(n, up.Depth(), down.Depth())
		}
	}
	if New().Depth() != 0 || New().Put("a", 1).Depth() != 1 || New().Put("a", 1).Put("b", 1).Depth() != 2 {
		t.Error("small ones")
	}
}

func TestP10_2Shares(t *testing.T) {
	r := rand.New(rand.NewSource(10))
	tr, want := New(), map[string]int{}
	for n := range 4000 {
		s := strconv.Itoa(r.Intn(700))
		next := tr.Put(s, n)
		if r.Intn(2) == 0 {
			next = tr.Drop(s)
			delete(want, s)
		} else {
			want[s] = n
		}
		if made := next.Len() - next.Shares(tr); made > 3*tr.Depth()+3 || made > 3*next.Depth()+3 || next.Shares(tr) != tr.Shares(next) {
			t.Fatal(n, made, tr.Depth())
		}
		tr = next
		if n%500 == 0 {
			check(t, tr, want)
		}
	}
	check(t, tr, want)
	if tr.Shares(New()) != 0 || New().Shares(tr) != 0 || New().Put("a", 1).Shares(New().Put("a", 1)) != 0 {
		t.Error("trees that have nothing in common")
	}
	if tr.Drop("absent").Shares(tr) != tr.Len() {
		t.Error("a Drop of nothing")
	}
}

func TestP10_3ForEver(t *testing.T) {
	r := rand.New(rand.NewSource(11))
	trees, wants := []*Tree{New()}, []map[string]int{{}}
	for n := range 400 {
		at := r.Intn(len(trees))
		tr, want, s := trees[at], maps.Clone(wants[at]), strconv.Itoa(r.Intn(60))
		if n%3 == 0 {
			tr = tr.Drop(s)
			delete(want, s)
		} else {
			tr = tr.Put(s, n)
			want[s] = n
		}
		got := tr.Names()
		for i := range got {
			got[i] = "changed"
		}
		trees, wants = append(trees, tr), append(wants, want)
	}
	for i := range trees {
		check(t, trees[i], wants[i])
	}
}
