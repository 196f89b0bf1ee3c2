package sess

import (
	"math"
	"math/rand"
	"reflect"
	"slices"
	"strconv"
	"testing"

	"scholium/api"
	"scholium/decl"
	"scholium/env"
	"scholium/kern"
	"scholium/sample"
	"scholium/text"
)

var plain = Config{Sessions: 4, Ids: 100, Staged: 3, Live: 10, Last: 50, Fuel: 10000}

func made(t *testing.T, change func(c *Config)) *Base {
	t.Helper()
	c := plain
	change(&c)
	b, err := New(c)
	if err != api.OK || b == nil {
		t.Fatal(err)
	}
	return b
}

func as(t *testing.T) *Base { t.Helper(); return made(t, func(*Config) {}) }

func opened(t *testing.T, b *Base) int {
	t.Helper()
	id, err := b.Open()
	if err != api.OK {
		t.Fatal(err)
	}
	return id
}

// staged opens a session that has declarations staged.
func staged(t *testing.T, b *Base, list ...api.Decl) int {
	t.Helper()
	id := opened(t, b)
	stage(t, b, id, list...)
	return id
}

func stage(t *testing.T, b *Base, id int, list ...api.Decl) {
	t.Helper()
	for _, d := range list {
		if told := b.Stage(id, d); told.Err != api.OK {
			t.Fatal(told)
		}
	}
}

func committed(t *testing.T, b *Base, id int) {
	t.Helper()
	if _, told := b.Commit(id); told.Err != api.OK {
		t.Fatal(told)
	}
}

func axiom(name string) api.Decl { return sample.Axiom(name, 0, "(* 0)") }

func TestP23_1New(t *testing.T) {
	for i, change := range []func(c *Config){
		func(c *Config) { c.Sessions = 0 }, func(c *Config) { c.Sessions = 17 }, func(c *Config) { c.Ids = -1 }, func(c *Config) { c.Ids = api.MaxCount + 1 }, func(c *Config) { c.Staged = -1 }, func(c *Config) { c.Staged = 17 }, func(c *Config) { c.Live = 0 }, func(c *Config) { c.Live = 65 }, func(c *Config) { c.Last = -1 }, func(c *Config) { c.Last = api.MaxCount + 1 }, func(c *Config) { c.Fuel = -1 }, func(c *Config) { c.Fuel = api.MaxFuel + 1 }, func(c *Config) { c.Fuel = math.MinInt }, func(c *Config) { *c = Config{} },
	} {
		c := plain
		change(&c)
		if b, err := New(c); b != nil || err != api.ErrRange {
			t.Error(i, err)
		}
	}
	for _, c := range []Config{{1, 0, 0, 1, 0, 0}, {16, api.MaxCount, 16, 64, api.MaxCount, api.MaxFuel}} {
		b, err := New(c)
		if err != api.OK || len(b.Sessions()) != 0 || b.Store().Head() != 0 || len(b.Log()) != 0 {
			t.Error(c, err)
		}
	}
}

func TestP23_1Open(t *testing.T) {
	b := made(t, func(c *Config) { c.Sessions, c.Ids = 2, 3 })
	for i, want := range []struct {
		id  int
		err api.Errno
	}{{1, 0}, {2, 0}, {0, api.ErrFull}} {
		if id, err := b.Open(); id != want.id || err != want.err {
			t.Error(i, id, err)
		}
	}
	b.Close(1)
	if id, err := b.Open(); id != 3 || err != api.OK || !slices.Equal(b.Sessions(), []int{2, 3}) || b.Store().Pins(0) != 2 {
		t.Error(id, err, b.Sessions())
	}
	if id, err := b.Open(); id != 0 || err != api.ErrCount {
		t.Error("the counter is told first", id, err)
	}
	for _, id := range []int{0, 1, -1, 4, math.MaxInt, math.MinInt} {
		typ, kind, lerr := b.Look(id, "nat")
		at, told := b.Ask(id, sample.Term("(* 0)"))
		n, ctold := b.Commit(id)
		m, aerr := b.Abort(id)
		snap, list, ok := b.Session(id)
		none := kern.Told{Err: api.ErrNone}
		if b.Stage(id, axiom("a")) != none || typ.Kind != 0 || kind != 0 || lerr != api.ErrNone || at.Kind != 0 || told != none || n != 0 || ctold != none || m != 0 || aerr != api.ErrNone || b.Close(id) != api.ErrNone || snap != 0 || len(list) != 0 || ok {
			t.Error(id)
		}
	}
}

func TestP23_2Stage(t *testing.T) {
	b := as(t)
	id := opened(t, b)
	v := env.New()
	for i, d := range []api.Decl{sample.Nat(), sample.Add(), sample.Axiom("bad", 0, "unknown"), sample.Nat(), {}, sample.Thm("t", 0, "nat", "nat.z"), axiom("a")} {
		next, want := kern.Verdict(v, d, plain.Fuel)
		if told := b.Stage(id, d); told != want {
			t.Error(i, told, want)
		}
		if want.Err == api.OK {
			v = next
		}
	}
	if told := b.Stage(id, axiom("b")); told != (kern.Told{Err: api.ErrFull}) {
		t.Error(told)
	}
	snap, list, ok := b.Session(id)
	if snap != 0 || !reflect.DeepEqual(list, []api.Decl{sample.Nat(), sample.Add(), axiom("a")}) || !ok {
		t.Error(snap, list, ok)
	}
	if typ, kind, err := b.Look(id, "add"); text.Term(typ) != "(> nat (> nat nat))" || kind != api.DDef || err != api.OK {
		t.Error(typ, kind, err)
	}
	if _, kind, err := b.Look(id, "bad"); kind != 0 || err != api.ErrNone {
		t.Error(kind, err)
	}
	want, wtold := kern.Ask(v, sample.Term("(add nat.z)"), plain.Fuel)
	if typ, told := b.Ask(id, sample.Term("(add nat.z)")); told != wtold || text.Term(typ) != text.Term(want) {
		t.Error(told)
	}
	if typ, told := b.Ask(id, api.Term{}); told != (kern.Told{Err: api.ErrForm}) || typ.Kind != 0 {
		t.Error(told)
	}
	none := made(t, func(c *Config) { c.Staged = 0 })
	if told := none.Stage(opened(t, none), api.Decl{}); told.Err != api.ErrFull {
		t.Error(told)
	}
	short := made(t, func(c *Config) { c.Fuel = 1 })
	if told := short.Stage(opened(t, short), axiom("a")); told != (kern.Told{Err: api.ErrFuel, Ticks: 1}) {
		t.Error(told)
	}
}

func TestP23_3Commit(t *testing.T) {
	b := as(t)
	one, two := staged(t, b, sample.Nat(), sample.Add()), staged(t, b, axiom("a"))
	three, four, five := staged(t, b, axiom("add")), opened(t, b), -1
	if n, told := b.Commit(one); n != 1 || told != (kern.Told{}) {
		t.Error("on the head", n, told)
	}
	if n, told := b.Commit(two); n != 2 || told != (kern.Told{Ticks: 2}) {
		t.Error("rechecked", n, told)
	}
	if n, told := b.Commit(three); n != 0 || told != (kern.Told{Err: api.ErrClash}) {
		t.Error("a name clashes", n, told)
	}
	if snap, list, _ := b.Session(three); snap != 0 || len(list) != 1 {
		t.Error("with an error all is as it was", snap, list)
	}
	if n, told := b.Commit(four); n != 2 || told != (kern.Told{}) || b.Store().Pins(2) != 2 || b.Store().Pins(0) != 1 || b.Store().Pins(1) != 1 {
		t.Error("nothing is staged", n, told)
	}
	if _, _, err := b.Look(four, "a"); err != api.OK {
		t.Error(err)
	}
	if n, told := b.Commit(one); n != 2 || told != (kern.Told{}) {
		t.Error(n, told)
	}
	b.Close(three)
	five = staged(t, b, sample.Def("x", 0, "nat", "(add nat.z nat.z)"))
	if n, told := b.Commit(five); n != 3 || told != (kern.Told{}) {
		t.Error(n, told)
	}
	head, _ := b.Store().Env(3)
	if !slices.Equal(head.Order(), []string{"nat", "nat.z", "nat.s", "nat.rec", "add", "a", "x"}) {
		t.Error(head.Order())
	}
	if log := b.Log(); !reflect.DeepEqual(log, []Commit{{one, 1, []api.Decl{sample.Nat(), sample.Add()}}, {two, 2, []api.Decl{axiom("a")}}, {five, 3, []api.Decl{sample.Def("x", 0, "nat", "(add nat.z nat.z)")}}}) {
		t.Error(log)
	}
}

func TestP23_3Room(t *testing.T) {
	b := made(t, func(c *Config) { c.Live, c.Last = 2, 3 })
	keep := opened(t, b)
	id := staged(t, b, axiom("a"))
	committed(t, b, id)
	stage(t, b, id, axiom("b"))
	if n, told := b.Commit(id); n != 0 || told != (kern.Told{Err: api.ErrFull}) {
		t.Error(n, told)
	}
	if snap, list, _ := b.Session(id); snap != 1 || len(list) != 1 || b.Store().Head() != 1 || len(b.Log()) != 1 {
		t.Error("with an error all is as it was")
	}
	b.Close(keep)
	if gone := b.Sweep(); !slices.Equal(gone, []int{0}) {
		t.Error(gone)
	}
	committed(t, b, id)
	stage(t, b, id, axiom("c"))
	b.Sweep()
	committed(t, b, id)
	stage(t, b, id, axiom("d"))
	if n, told := b.Commit(id); n != 0 || told != (kern.Told{Err: api.ErrCount}) {
		t.Error("the counter is told ahead of the room", n, told)
	}
	late := opened(t, b)
	stage(t, b, late, axiom("d"))
	if n, told := b.Commit(late); n != 0 || told.Err != api.ErrCount {
		t.Error("room is asked ahead of a clash", n, told)
	}
}

// TestP23_3Refused: a clash of names is told without ticks, a refusal with those of all that the kernel was asked.
func TestP23_3Refused(t *testing.T) {
	b := as(t)
	one, two := staged(t, b, sample.Nat()), staged(t, b, axiom("x"), sample.Ind("n", 0, 0, "(* 1)", "nat.s", "n"))
	committed(t, b, one)
	if _, told := b.Commit(two); told != (kern.Told{Err: api.ErrClash}) {
		t.Error("a constructor's name", told)
	}
	three := opened(t, b)
	other := staged(t, b, axiom("m.rec"))
	stage(t, b, three, sample.Ind("m", 0, 0, "(* 1)"))
	committed(t, b, other)
	if _, told := b.Commit(three); told != (kern.Told{Err: api.ErrClash}) {
		t.Error("a recursor's name", told)
	}
	for _, id := range []int{one, two, three} {
		b.Close(id)
	}
	four, five := staged(t, b, axiom("f1"), axiom("f2")), staged(t, b, axiom("f3"))
	committed(t, b, five)
	if n, told := b.Commit(four); n != 4 || told != (kern.Told{Ticks: 4}) {
		t.Error("all ticks together", n, told)
	}
	stage(t, b, four, axiom("g"), sample.Def("d", 0, "nat", "nat.z"), axiom("h"))
	if _, err := b.Store().Push(env.New()); err != api.OK { // nat isn't there
		t.Fatal(err)
	}
	if n, told := b.Commit(four); n != 0 || told != (kern.Told{Err: api.ErrClash, Ticks: 4}) {
		t.Error("refused", n, told)
	}
}

func TestP23_4AbortClose(t *testing.T) {
	b := as(t)
	id := staged(t, b, axiom("a"), axiom("b"))
	if n, err := b.Abort(id); n != 2 || err != api.OK {
		t.Error(n, err)
	}
	if n, err := b.Abort(id); n != 0 || err != api.OK {
		t.Error(n, err)
	}
	if _, _, err := b.Look(id, "a"); err != api.ErrNone {
		t.Error("it is staged still")
	}
	stage(t, b, id, axiom("a"))
	committed(t, b, id)
	old := opened(t, b)
	stage(t, b, id, axiom("c"))
	committed(t, b, id)
	if gone := b.Sweep(); !slices.Equal(gone, []int{0}) || !slices.Equal(b.Store().Live(), []int{1, 2}) {
		t.Error(gone)
	}
	if err := b.Close(old); err != api.OK || !slices.Equal(b.Sessions(), []int{id}) || b.Close(old) != api.ErrNone {
		t.Error(err)
	}
	if gone := b.Sweep(); !slices.Equal(gone, []int{1}) || len(b.Sweep()) != 0 {
		t.Error(gone)
	}
	b.Close(id)
	if len(b.Sweep()) != 0 || len(b.Sessions()) != 0 {
		t.Error("the head is swept")
	}
}

// TestP23_5Told: what a session is told hangs on its snapshot and on what is staged alone, and the head is that of the log.
func TestP23_5Told(t *testing.T) {
	r := rand.New(rand.NewSource(23))
	b := made(t, func(c *Config) { c.Sessions, c.Ids, c.Last, c.Live = 5, 1000, 1000, 64 })
	worlds := map[int]*env.Env{0: env.New()}
	for n := range 1500 {
		id := 0
		if l := b.Sessions(); len(l) > 0 {
			id = l[r.Intn(len(l))]
		}
		switch r.Intn(9) {
		case 0:
			b.Open()
		case 1:
			if n%4 == 0 {
				b.Close(id)
			}
		case 2:
			b.Sweep()
		case 3:
			if n%3 == 0 {
				b.Abort(id)
			}
		case 4, 5:
			b.Commit(id)
		default:
			b.Stage(id, axiom("n"+strconv.Itoa(r.Intn(400))))
		}
		head, _ := b.Store().Env(b.Store().Head())
		worlds[b.Store().Head()] = head
		for _, id := range b.Sessions() {
			snap, list, _ := b.Session(id)
			v, told := kern.Ledger(worlds[snap], plain.Fuel, list...)
			if v == nil || b.Store().Pins(snap) == 0 {
				t.Fatal(told)
			}
			name := "n" + strconv.Itoa(r.Intn(400))
			typ, kind, err := kern.Look(v, name)
			if gtyp, gkind, gerr := b.Look(id, name); gkind != kind || gerr != err || text.Term(gtyp) != text.Term(typ) {
				t.Fatal(n, id, name)
			}
		}
	}
	var all []api.Decl
	for _, c := range b.Log() {
		all = append(all, c.Decls...)
	}
	v, _ := kern.Ledger(env.New(), plain.Fuel, all...)
	head, _ := b.Store().Env(b.Store().Head())
	if len(b.Log()) < 50 || !slices.Equal(v.Order(), head.Order()) || len(b.Log()) != b.Store().Head() {
		t.Error(len(b.Log()), v.Len(), head.Len())
	}
	for _, n := range v.Order() {
		x, _ := v.Get(n)
		y, _ := head.Get(n)
		if !decl.Same(x, y) {
			t.Error(n)
		}
	}
}

func TestP23_5NewMemory(t *testing.T) {
	b := as(t)
	d := sample.Nat()
	id := staged(t, b, d)
	spoil(d)
	_, list, _ := b.Session(id)
	if !reflect.DeepEqual(list[0], sample.Nat()) {
		t.Fatal("kept")
	}
	spoil(list[0])
	committed(t, b, id)
	log := b.Log()
	spoil(log[0].Decls[0])
	log[0].Decls[0].Name = "changed"
	if !reflect.DeepEqual(b.Log()[0].Decls[0], sample.Nat()) {
		t.Error("handed out")
	}
}

func spoil(d api.Decl) {
	for i := range d.Ctors {
		d.Ctors[i].Name = "changed"
		for j := range d.Ctors[i].Type.Args {
			d.Ctors[i].Type.Args[j].Kind = 99
		}
	}
}
