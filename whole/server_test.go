package whole

import (
	"bytes"
	"math/rand"
	"reflect"
	"slices"
	"strconv"
	"strings"
	"testing"

	"scholium/api"
	"scholium/decl"
	"scholium/deps"
	"scholium/env"
	"scholium/kern"
	"scholium/model"
	"scholium/pack"
	"scholium/sample"
	"scholium/script"
	"scholium/serve"
	"scholium/sess"
)

const clients = 3

// A stage is a server, a model of it, and what the clients have sent.
type stage struct {
	t    *testing.T
	w    wild
	c    sess.Config
	s    *serve.Server
	m    *model.Model
	sent [clients][][]byte
}

func newStage(t *testing.T, seed int64) *stage {
	w := wild{rand.New(rand.NewSource(seed))}
	c := sess.Config{Sessions: 2 + w.Intn(4), Ids: 60, Staged: 1 + w.Intn(4), Live: 2 + w.Intn(6), Last: 40, Fuel: pick(w, 100, 1000, 3000)}
	return &stage{t: t, w: w, c: c, s: must(serve.New(c, clients, 4)), m: must(model.New(c))}
}

// plan: declarations of which some need others, some clash, and some are wrong.
func plan() []api.Decl {
	list := append(library(), sample.Axiom("bad", 0, "unknown"), sample.Thm("wrong", 0, "nat", "nat.z"), sample.Axiom("nat.s", 0, "(* 0)"), sample.Def("add", 0, "(* 1)", "nat"), sample.Ind("neg", 0, 0, "(* 1)", "neg.i", "(> (> neg nat) neg)"))
	for n := range 8 {
		name := "a" + strconv.Itoa(n)
		list = append(list, sample.Axiom(name, 0, "(* 0)"), sample.Axiom("b"+strconv.Itoa(n), 0, "(> "+name+" a"+strconv.Itoa((n+3)%8)+")"))
	}
	return list
}

func (g *stage) request() []byte {
	w, open := g.w, g.s.Base().Sessions()
	id := w.Intn(8)
	if len(open) > 0 && w.Intn(8) > 0 {
		id = pick(w, open...)
	}
	stage := serve.Request{Kind: serve.RStage, Id: id, Decl: pick(w, plan()...)}
	look := serve.Request{Kind: serve.RLook, Id: id, Name: pick(w, "nat", "add", "a1", "b2", "void.rec", "x")}
	ask := serve.Request{Kind: serve.RAsk, Id: id, Term: pick(w, sample.Terms("(add nat.z)", "a1", "(b1 nat)", "(\\ a1 (b1 #0))", "nat")...)}
	commit := serve.Request{Kind: serve.RCommit, Id: id}
	b, _ := serve.Encode(pick(w, serve.Request{Kind: serve.ROpen}, serve.Request{Kind: serve.ROpen}, stage, stage, stage, stage, stage, stage, look, ask, commit, commit, commit, commit, serve.Request{Kind: pick(w, serve.RAbort, serve.RClose), Id: id}, serve.Request{Kind: serve.RSweep}, serve.Request{Kind: serve.RSweep}, serve.Request{Kind: serve.RStat}, w.request()))
	return b
}

// state: all that a server tells of itself, but for the counter and the replies.
func state(b *sess.Base) string {
	var out []string
	for _, id := range b.Sessions() {
		snap, list, _ := b.Session(id)
		out = append(out, strconv.Itoa(id), strconv.Itoa(snap), strconv.Itoa(b.Store().Pins(snap)))
		for _, d := range list {
			out = append(out, strconv.FormatUint(pack.Hash(d), 16))
		}
	}
	for _, n := range b.Store().Live() {
		out = append(out, "v"+strconv.Itoa(n))
	}
	out = append(out, "log", strconv.Itoa(len(b.Log())), "head", strconv.Itoa(b.Store().Head()))
	return strings.Join(out, " ")
}

// step does an event, and holds what comes of it against the promises.
func (g *stage) step() {
	t := g.t
	if n := g.w.Intn(clients); g.w.Intn(2) == 0 {
		if b := g.request(); g.s.Send(n, b) == api.OK {
			g.sent[n] = append(g.sent[n], b)
		}
		return
	}
	before, count, waiting := state(g.s.Base()), g.s.Count(), g.waiting()
	n, reply, err := g.s.Step(g.w.number())
	if err != api.OK {
		if waiting != 0 || g.s.Count() != count {
			t.Error("requests wait, and none is served")
		}
		return
	}
	if g.s.Count() != count+1 || g.waiting() != waiting-1 {
		t.Error("P2: a step serves one request whole")
	}
	b := g.sent[n][0]
	g.sent[n] = g.sent[n][1:]
	if want := g.m.Serve(b); !bytes.Equal(reply, want) || g.m.Count() != g.s.Count() {
		t.Errorf("P3: %s: %v, not %v", script.Say(b), reply, want)
	}
	r, derr := serve.DecodeReply(reply)
	if derr != api.OK || r.Ticks > g.c.Fuel*(g.c.Staged+1) {
		t.Error("P6:", r.Ticks, derr)
	}
	if r.Err != api.OK && state(g.s.Base()) != before {
		t.Error("P3: an error changes something", script.Say(b))
	}
}

func (g *stage) waiting() int {
	all := 0
	for n := range clients {
		all += g.s.Waiting(n)
	}
	return all
}

// ledgerUpTo: the declarations of the commits up to a version.
func ledgerUpTo(b *sess.Base, version int) []api.Decl {
	var out []api.Decl
	for _, c := range b.Log() {
		if c.Version <= version {
			out = append(out, c.Decls...)
		}
	}
	return out
}

func sameEnv(a, b *env.Env) bool {
	if a == nil || b == nil || !slices.Equal(a.Order(), b.Order()) {
		return false
	}
	for _, n := range a.Order() {
		x, _ := a.Get(n)
		y, _ := b.Get(n)
		if !decl.Same(x, y) {
			return false
		}
	}
	return true
}

// TestP2ToP6 runs scripts, and looks at every prefix.
func TestP2ToP6(t *testing.T) {
	commits, clashes := 0, 0
	for seed := range int64(40) {
		g := newStage(t, seed)
		for n := range 700 {
			g.step()
			if n%35 == 0 {
				g.check()
			}
			if t.Failed() {
				t.Fatal("seed", seed, "event", n)
			}
		}
		g.check()
		commits += len(g.s.Base().Log())
		for n := range clients {
			for _, b := range g.s.Replies(n) {
				if b[0] == byte(api.ErrClash) {
					clashes++
				}
			}
		}
	}
	if commits < 200 || clashes < 20 {
		t.Error("too little happens", commits, clashes)
	}
}

// check looks at all that is kept: the ledger and the head (P2), the model's ledger (P3), and what sessions are told (P4).
func (g *stage) check() {
	t, b := g.t, g.s.Base()
	head, _ := b.Store().Env(b.Store().Head())
	all := ledgerUpTo(b, b.Store().Head())
	v, told := kern.Ledger(env.New(), g.c.Fuel, all...)
	if !sameEnv(v, head) {
		t.Error("P2: the head isn't the map of the ledger", told)
	}
	if got := g.m.Ledger(); len(got) != len(all) || len(all) > 0 && !reflect.DeepEqual(got, all) {
		t.Error("P3: the model's ledger")
	}
	needed := map[int]int{b.Store().Head(): 1}
	for _, id := range b.Sessions() {
		snap, list, _ := b.Session(id)
		needed[snap]++
		v, told := kern.Ledger(env.New(), g.c.Fuel, append(ledgerUpTo(b, snap), list...)...)
		for _, n := range []string{"nat", "a1", "b1", "void.rec", "x"} {
			typ, kind, err := b.Look(id, n)
			if want, wkind, werr := kern.Look(v, n); kind != wkind || err != werr || !reflect.DeepEqual(typ, want) {
				t.Error("P4:", n, told)
			}
		}
		at, atold := b.Ask(id, sample.Term("(\\ a1 (b1 #0))"))
		if want, wtold := kern.Ask(v, sample.Term("(\\ a1 (b1 #0))"), g.c.Fuel); atold != wtold || !reflect.DeepEqual(at, want) {
			t.Error("P4: an answer")
		}
	}
	if g.w.Intn(3) == 0 {
		b.Sweep()
		g.m.Answer(serve.Request{Kind: serve.RSweep})
		for _, n := range b.Store().Live() {
			if needed[n] == 0 {
				t.Error("P4: a sweep keeps", n)
			}
			delete(needed, n)
		}
		if len(needed) > 0 {
			t.Error("P4: a sweep drops", needed)
		}
	}
}

// TestP5Commits: on the head without a recheck; else just if no name clashes and the kernel takes all.
func TestP5Commits(t *testing.T) {
	for seed := range int64(60) {
		w := wild{rand.New(rand.NewSource(seed))}
		b := must(sess.New(sess.Config{Sessions: 4, Ids: 400, Staged: 5, Live: 60, Last: 50, Fuel: 3000}))
		for range 3 {
			b.Open()
		}
		for range 60 {
			id := 1 + w.Intn(3)
			if w.Intn(4) > 0 {
				b.Stage(id, pick(w, plan()...))
				continue
			}
			snap, list, _ := b.Session(id)
			before := state(b)
			want := expected(b, snap, list)
			n, told := b.Commit(id)
			if told != want || told.Err != api.OK && (n != 0 || state(b) != before) || told.Err == api.OK && n != b.Store().Head() {
				t.Fatal(seed, told, want)
			}
		}
	}
}

// expected: what a commit is to tell, where there is room.
func expected(b *sess.Base, snap int, list []api.Decl) kern.Told {
	head := b.Store().Head()
	if len(list) == 0 || snap == head {
		return kern.Told{}
	}
	var added, names []string
	for _, d := range ledgerUpTo(b, head)[len(ledgerUpTo(b, snap)):] {
		added = append(added, deps.Names(d)...)
	}
	for _, d := range list {
		names = append(names, deps.Names(d)...)
	}
	if _, clash := deps.Clash(names, added); clash {
		return kern.Told{Err: api.ErrClash}
	}
	v, _ := b.Store().Env(head)
	out, all := kern.Ledger(v, b.Fuel, list...)
	told := kern.Told{}
	for _, x := range all {
		told.Ticks += x.Ticks
	}
	if out == nil {
		told.Err = api.ErrClash
	}
	return told
}

// TestP5Apart: declarations that have nothing in common commit in whichever order.
func TestP5Apart(t *testing.T) {
	list := []api.Decl{sample.Nat(), sample.Ind("void", 0, 0, "(* 0)"), sample.Axiom("a", 0, "(* 0)"), sample.Def("id", 1, "(> (* u0) (> #0 #1))", "(\\ (* u0) (\\ #0 #0))")}
	var first *env.Env
	for seed := range int64(12) {
		order := rand.New(rand.NewSource(seed)).Perm(len(list))
		b := must(sess.New(plain))
		for _, d := range list {
			id := must(b.Open())
			b.Stage(id, d)
		}
		for _, at := range order {
			if _, told := b.Commit(at + 1); told.Err != api.OK {
				t.Error(seed, told)
			}
		}
		v, _ := b.Store().Env(b.Store().Head())
		if first == nil {
			first = v
		}
		for _, n := range first.Names() {
			x, _ := first.Get(n)
			y, _ := v.Get(n)
			if !decl.Same(x, y) || !slices.Equal(first.Names(), v.Names()) {
				t.Error(seed, n)
			}
		}
	}
}

// TestP6Bounds: a commit that rechecks takes the most ticks.
func TestP6Bounds(t *testing.T) {
	c := sess.Config{Sessions: 2, Ids: 2, Staged: 16, Live: 9, Last: 9, Fuel: 2}
	b := must(sess.New(c))
	one, two := must(b.Open()), must(b.Open())
	for n := range 16 {
		if told := b.Stage(one, sample.Axiom("a"+strconv.Itoa(n), 0, "(* 0)")); told.Ticks != c.Fuel {
			t.Error(told)
		}
	}
	b.Stage(two, sample.Axiom("b", 0, "(* 0)"))
	b.Commit(two)
	if n, told := b.Commit(one); n != 2 || told.Ticks != 32 || told.Ticks > c.Fuel*(c.Staged+1) {
		t.Error(n, told)
	}
}
