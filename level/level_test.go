package level

import (
	"math"
	"math/rand"
	"reflect"
	"testing"

	"scholium/api"
)

var u, v = Param(0), Param(1)

// tower: a level of n nodes.
func tower(n int) api.Level {
	l := Num(0)
	for range n - 1 {
		l = Succ(l)
	}
	return l
}

func wrongLevels() []api.Level {
	bare := func(kind, n int, args ...api.Level) api.Level { return api.Level{Kind: kind, N: n, Args: args} }
	loop := bare(api.LSucc, 0, Num(0))
	loop.Args[0] = loop
	twice := Num(1)
	for range 70 {
		twice = bare(api.LMax, 0, twice, twice)
	}
	return []api.Level{{}, bare(6, 0), bare(-1, 0), Num(-1), Num(101), bare(api.LNum, 1, u), Param(-1), Param(4), Param(math.MaxInt), bare(api.LParam, 0, u), bare(api.LSucc, 0), bare(api.LSucc, 1, u), bare(api.LSucc, 0, u, v), bare(api.LMax, 0, u), bare(api.LMax, 2, u, v), bare(api.LIMax, 0, u, v, u), bare(api.LIMax, -1, u, v), Succ(Num(200)), tower(65), loop, twice}
}

func TestP3_1Right(t *testing.T) {
	for i, l := range wrongLevels() {
		if Right(l, 4) || Value(l, []int{1, 2, 3, 4}) != 0 || Leq(l, l) || Leq(Num(0), l) || Leq(l, tower(64)) || Same(l, l) || Zero(l) || Never(l) {
			t.Error(i, l.Kind)
		}
		if _, ok := Inst(l, []api.Level{u, u, u, u}); ok {
			t.Error(i, "inst")
		}
	}
	for _, l := range []api.Level{Num(0), Num(100), u, Succ(u), Max(u, v, Num(3)), IMax(u, Succ(v)), tower(64), {Kind: api.LNum, Args: []api.Level{}}} {
		if !Right(l, 4) || !Right(l, 2) {
			t.Error(l)
		}
	}
	if Right(u, 0) || !Right(u, 1) || Right(v, 1) || Right(Num(0), -1) || Right(Num(0), 5) || !Right(Num(0), 0) {
		t.Error("parameters")
	}
}

func TestP3_1Nodes(t *testing.T) {
	if Nodes(Num(5)) != 1 || Nodes(Max(u, v, u)) != 5 || Nodes(tower(64)) != 64 || Nodes(tower(65)) != 65 || Nodes(tower(100)) != 65 || Nodes(api.Level{}) != 1 {
		t.Error("nodes")
	}
	wide := api.Level{Args: make([]api.Level, 1000)}
	if Nodes(wide) != 65 {
		t.Error("wide")
	}
}

func TestP3_1Value(t *testing.T) {
	l := Max(Succ(u), IMax(Num(7), v))
	for _, c := range []struct {
		vals []int
		want int
	}{{nil, 1}, {[]int{3}, 4}, {[]int{3, 1}, 7}, {[]int{3, 9}, 9}, {[]int{-5, -5}, 1}, {[]int{math.MinInt, math.MaxInt}, 1 << 20}, {[]int{1 << 20}, 1<<20 + 1}, {[]int{1<<20 + 1}, 1<<20 + 1}, {[]int{0, 0, 9, 9, 9, 9}, 1}} {
		if got := Value(l, c.vals); got != c.want {
			t.Error(c.vals, got)
		}
	}
	if Value(IMax(Num(3), Num(0)), nil) != 0 || Value(Num(100), nil) != 100 {
		t.Error("value")
	}
}

func TestP3_1ZeroNever(t *testing.T) {
	for _, c := range []struct {
		l           api.Level
		zero, never bool
	}{
		{Num(0), true, false}, {Num(1), false, true}, {u, false, false}, {Succ(u), false, true}, {IMax(u, Num(0)), true, false}, {IMax(Succ(u), v), false, false},
		{IMax(u, Succ(v)), false, true}, {Max(u, Num(1)), false, true}, {Max(u, v), false, false}, {IMax(Num(1), IMax(u, Num(0))), true, false}, {Max(IMax(u, Num(0)), Num(0)), true, false},
	} {
		if Zero(c.l) != c.zero || Never(c.l) != c.never {
			t.Error(c.l, Zero(c.l), Never(c.l))
		}
	}
}

func TestP3_2Leq(t *testing.T) {
	for i, c := range []struct {
		a, b     api.Level
		leq, geq bool
	}{
		{u, u, true, true}, {u, v, false, false}, {Num(0), u, true, false}, {Num(1), u, false, false}, {Num(1), Succ(u), true, false}, {Num(2), Succ(u), false, false},
		{u, Succ(u), true, false}, {Max(u, v), Max(v, u), true, true}, {u, Max(u, v), true, false}, {IMax(u, v), Max(u, v), true, false}, {IMax(Succ(u), v), Max(Succ(u), v), true, false},
		{IMax(u, Succ(v)), Max(u, Succ(v)), true, true}, {IMax(u, u), u, true, true}, {IMax(Num(0), u), u, true, true}, {IMax(Num(1), u), u, true, true}, {IMax(Num(2), u), u, false, true},
		{Succ(Max(u, v)), Max(Succ(u), Succ(v)), true, true}, {Max(Num(1), Succ(u)), Succ(u), true, true}, {Max(Num(2), Succ(u)), Succ(u), false, true}, {Succ(Num(1)), Num(2), true, true},
		{Param(3), Succ(Param(3)), true, false}, {Num(1), IMax(u, v), false, false}, {IMax(IMax(u, v), v), IMax(u, v), true, true},
	} {
		if Leq(c.a, c.b) != c.leq || Leq(c.b, c.a) != c.geq || Same(c.a, c.b) != (c.leq && c.geq) {
			t.Error(i, Leq(c.a, c.b), Leq(c.b, c.a), Same(c.a, c.b))
		}
	}
}

func random(r *rand.Rand, deep int) api.Level {
	k := r.Intn(6)
	if deep == 0 {
		k = r.Intn(3)
	}
	switch k {
	case 0:
		return Num(r.Intn(3))
	case 1, 2:
		return Param(r.Intn(3))
	case 3:
		return Succ(random(r, deep-1))
	case 4:
		return Max(random(r, deep-1), random(r, deep-1))
	}
	return IMax(random(r, deep-1), random(r, deep-1))
}

// byValues asks for the values on a grid that is fine enough for small levels.
func byValues(holds func(a, b int) bool, a, b api.Level) bool {
	grid := []int{0, 1, 2, 9, 30}
	for _, x := range grid {
		for _, y := range grid {
			for _, z := range grid {
				vals := []int{x, y, z}
				if !holds(Value(a, vals), Value(b, vals)) {
					return false
				}
			}
		}
	}
	return true
}

func TestP3_2ByValues(t *testing.T) {
	r := rand.New(rand.NewSource(1))
	for range 4000 {
		a, b := random(r, 4), random(r, 4)
		if Leq(a, b) != byValues(func(x, y int) bool { return x <= y }, a, b) || Same(a, b) != byValues(func(x, y int) bool { return x == y }, a, b) {
			t.Fatal(a, b)
		}
		if Zero(a) != byValues(func(x, _ int) bool { return x == 0 }, a, a) || Never(a) != byValues(func(x, _ int) bool { return x > 0 }, a, a) {
			t.Fatal(a)
		}
	}
}

func TestP3_3Inst(t *testing.T) {
	got, ok := Inst(Max(Succ(v), u), []api.Level{Num(3), IMax(u, v)})
	if !ok || !reflect.DeepEqual(got, Max(Succ(IMax(u, v)), Num(3))) {
		t.Error(got, ok)
	}
	if got, ok := Inst(Num(4), nil); !ok || !reflect.DeepEqual(got, Num(4)) {
		t.Error(got, ok)
	}
	if got, ok := Inst(Max(u, u), []api.Level{tower(31)}); !ok || Nodes(got) != 63 {
		t.Error(Nodes(got), ok)
	}
	if got, ok := Inst(Succ(Max(u, u)), []api.Level{tower(31)}); !ok || Nodes(got) != 64 {
		t.Error("64 nodes", Nodes(got), ok)
	}
	for i, c := range []struct {
		l  api.Level
		by []api.Level
	}{
		{u, nil}, {v, []api.Level{u}}, {u, []api.Level{u, u, u, u, u}}, {Num(0), []api.Level{{}}}, {u, []api.Level{Param(4)}}, {u, []api.Level{u, tower(65)}}, {Max(u, u), []api.Level{tower(32)}}, {api.Level{}, nil},
	} {
		if got, ok := Inst(c.l, c.by); ok || !reflect.DeepEqual(got, api.Level{}) {
			t.Error(i, got, ok)
		}
	}
}

func TestP3_3Made(t *testing.T) {
	for i, c := range []struct{ got, want api.Level }{
		{Num(-3), api.Level{Kind: api.LNum, N: -3}}, {Param(9), api.Level{Kind: api.LParam, N: 9}}, {Succ(u), api.Level{Kind: api.LSucc, Args: []api.Level{u}}},
		{IMax(u, v), api.Level{Kind: api.LIMax, Args: []api.Level{u, v}}}, {Max(), Num(0)}, {Max(v), v}, {Max(u, v), api.Level{Kind: api.LMax, Args: []api.Level{u, v}}},
		{Max(u, v, Num(1)), api.Level{Kind: api.LMax, Args: []api.Level{u, {Kind: api.LMax, Args: []api.Level{v, Num(1)}}}}},
	} {
		if !reflect.DeepEqual(c.got, c.want) {
			t.Error(i, c.got)
		}
	}
}

func TestP3_4NewMemory(t *testing.T) {
	in := Succ(Succ(u))
	list := []api.Level{in, in, v}
	one, _ := Inst(Max(u, u, v), list)
	made := []api.Level{Succ(in), Max(in), Max(in, in), Max(list...), IMax(in, in), one}
	for _, l := range made {
		spoil(l)
	}
	if !reflect.DeepEqual(list, []api.Level{Succ(Succ(Param(0))), Succ(Succ(Param(0))), Param(1)}) {
		t.Error(list)
	}
	both := Max(in, in)
	both.Args[0].Args[0].N = 7
	if both.Args[1].Args[0].N == 7 {
		t.Error("two lists of one answer share memory")
	}
}

// spoil changes all that lies behind a level.
func spoil(l api.Level) {
	for i := range l.Args {
		spoil(l.Args[i])
		l.Args[i] = api.Level{Kind: 99}
	}
}
