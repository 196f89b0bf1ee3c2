package model

import (
	"bytes"
	"math/rand"
	"reflect"
	"strconv"
	"testing"

	"scholium/api"
	"scholium/env"
	"scholium/kern"
	"scholium/sample"
	"scholium/serve"
	"scholium/sess"
)

var plain = sess.Config{Sessions: 3, Ids: 40, Staged: 3, Live: 5, Last: 20, Fuel: 600}

func TestP25_1New(t *testing.T) {
	for _, c := range []sess.Config{{}, {Sessions: 1, Live: 1, Fuel: -1}, {Sessions: 17, Live: 1}, {Sessions: 1, Live: 65}} {
		if m, err := New(c); m != nil || err != api.ErrRange {
			t.Error(c, err)
		}
	}
	m, err := New(sess.Config{Sessions: 1, Live: 1})
	if err != api.OK || m.Count() != 0 || len(m.Ledger()) != 0 {
		t.Error(err)
	}
}

func decls() []api.Decl {
	list := []api.Decl{sample.Nat(), sample.Add(), sample.Thm("t", 0, "(* 0)", "(* 0)"), sample.Ind("void", 0, 0, "(* 0)"), sample.Def("two", 0, "nat", sample.Num(2)), sample.Axiom("nat.s", 0, "(* 0)"), {Kind: 9}, sample.Opaque("four", 0, "nat", "(add two two)"), sample.Axiom("void.rec", 0, "(* 3)")}
	for n := range 6 {
		list = append(list, sample.Axiom("a"+strconv.Itoa(n), 0, "(* 0)"), sample.Def("d"+strconv.Itoa(n), 0, "(* 1)", "(> a"+strconv.Itoa(n)+" a"+strconv.Itoa((n+1)%6)+")"))
	}
	return list
}

// request: one that somebody may send, or none.
func request(r *rand.Rand, open []int) []byte {
	list := decls()
	id := r.Intn(12)
	if len(open) > 0 && r.Intn(9) > 0 {
		id = open[r.Intn(len(open))]
	}
	var q serve.Request
	switch k := r.Intn(14); k {
	case 0, 1:
		q = serve.Request{Kind: serve.ROpen}
	case 2, 3, 4, 5:
		q = serve.Request{Kind: serve.RStage, Id: id, Decl: list[r.Intn(len(list))]}
	case 6:
		q = serve.Request{Kind: serve.RLook, Id: id, Name: []string{"nat", "add", "a1", "d2", "nat.rec", "no", ""}[r.Intn(7)]}
	case 7:
		q = serve.Request{Kind: serve.RAsk, Id: id, Term: sample.Terms("nat", "(add two)", "(nat.s a1)", "(two two)", "#0", "(\\ nat (add #0 #0))")[r.Intn(6)]}
	case 8, 9:
		q = serve.Request{Kind: serve.RCommit, Id: id}
	case 10:
		q = serve.Request{Kind: []int{serve.RAbort, serve.RClose}[r.Intn(2)], Id: id}
	case 11:
		q = serve.Request{Kind: serve.RSweep}
	case 12:
		q = serve.Request{Kind: serve.RStat}
	}
	b, ok := serve.Encode(q)
	if !ok {
		b = make([]byte, r.Intn(4))
		for i := range b {
			b[i] = byte(r.Intn(10))
		}
	}
	return b
}

// TestP25_1Alike: P3 of the whole; the ledger tells the head (P2).
func TestP25_1Alike(t *testing.T) {
	for seed := range 90 {
		r := rand.New(rand.NewSource(int64(seed)))
		c := plain
		if seed%3 == 0 {
			c = sess.Config{Sessions: 1 + r.Intn(4), Ids: r.Intn(30), Staged: r.Intn(4), Live: 1 + r.Intn(4), Last: r.Intn(9), Fuel: r.Intn(200)}
		}
		s, err := serve.New(c, 1, 1)
		m, merr := New(c)
		if err != api.OK || merr != api.OK {
			t.Fatal(err, merr)
		}
		for n := range 150 {
			b := request(r, s.Base().Sessions())
			if n%7 == 6 { // by Answer, which isn't counted
				q, _ := serve.Decode(b)
				if got, want := m.Answer(q), serve.Answer(s.Base(), q); !reflect.DeepEqual(got, want) {
					t.Fatal(seed, n, q, got, want)
				}
				s.Serve(nil)
				m.Serve(nil)
				continue
			}
			if got, want := m.Serve(b), s.Serve(b); !bytes.Equal(got, want) {
				t.Fatalf("%d %d %q: %q, not %q", seed, n, b, got, want)
			}
			if m.Count() != s.Count() || m.Count() != n+1 {
				t.Fatal(m.Count(), s.Count())
			}
		}
		check(t, m, s)
	}
}

// check holds the model's ledger against the server's log and head.
func check(t *testing.T, m *Model, s *serve.Server) {
	t.Helper()
	var log []api.Decl
	for _, c := range s.Base().Log() {
		log = append(log, c.Decls...)
	}
	if !reflect.DeepEqual(m.Ledger(), log) {
		t.Fatal(m.Ledger())
	}
	v, _ := kern.Ledger(env.New(), m.Fuel, log...)
	head, _ := s.Base().Store().Env(s.Base().Store().Head())
	if v == nil || !reflect.DeepEqual(v.Order(), head.Order()) {
		t.Fatal("the head isn't that of the ledger")
	}
}

func TestP25_1Wrong(t *testing.T) {
	m, _ := New(plain)
	for i, q := range []serve.Request{{}, {Kind: 99}, {Kind: serve.ROpen, Id: 1}, {Kind: serve.RStage, Id: 1}, {Kind: serve.ROpen, Name: "a"}} {
		if got := m.Answer(q); !reflect.DeepEqual(got, serve.Reply{Err: api.ErrForm}) {
			t.Error(i, got)
		}
	}
	if m.Count() != 0 {
		t.Error("what Answer is told doesn't count")
	}
	if got := m.Serve([]byte{1, 0}); string(got) != "\x00\x00\x01\x00" || m.Count() != 1 {
		t.Errorf("%q", got)
	}
}

func TestP25_2Ledger(t *testing.T) {
	m, _ := New(plain)
	d := sample.Nat()
	m.Answer(serve.Request{Kind: serve.ROpen})
	m.Answer(serve.Request{Kind: serve.RStage, Id: 1, Decl: d})
	if len(m.Ledger()) != 0 {
		t.Error("it isn't committed")
	}
	d.Ctors[0].Name = "changed"
	m.Answer(serve.Request{Kind: serve.RCommit, Id: 1})
	list := m.Ledger()
	if !reflect.DeepEqual(list, []api.Decl{sample.Nat()}) {
		t.Fatal(list)
	}
	list[0].Ctors[0].Name = "changed"
	list[0].Ctors[1].Type.Args[0].Kind = 99
	if !reflect.DeepEqual(m.Ledger(), []api.Decl{sample.Nat()}) {
		t.Error("handed out")
	}
	if v, told := kern.Ledger(env.New(), plain.Fuel, m.Ledger()...); v == nil {
		t.Error(told)
	}
	got := m.Answer(serve.Request{Kind: serve.RLook, Id: 1, Name: "nat.s"})
	got.Term.Args[0].Kind = 99
	if again := m.Answer(serve.Request{Kind: serve.RLook, Id: 1, Name: "nat.s"}); !reflect.DeepEqual(again.Term, sample.Term("(> nat nat)")) {
		t.Error("handed out")
	}
}
