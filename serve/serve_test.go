package serve

import (
	"bytes"
	"math"
	"reflect"
	"strings"
	"testing"

	"scholium/api"
	"scholium/level"
	"scholium/sample"
	"scholium/sess"
	"scholium/term"
)

var plain = sess.Config{Sessions: 3, Ids: 50, Staged: 3, Live: 4, Last: 50, Fuel: 5000}

func made(t *testing.T, clients, room int) *Server {
	t.Helper()
	s, err := New(plain, clients, room)
	if err != api.OK || s == nil {
		t.Fatal(err)
	}
	return s
}

func encoded(t *testing.T, r Request) []byte {
	t.Helper()
	b, ok := Encode(r)
	if !ok {
		t.Fatal(r)
	}
	return b
}

var requests = []struct {
	r     Request
	bytes string
}{
	{Request{Kind: ROpen}, "\x01\x00"}, {Request{Kind: RSweep}, "\x08\x00"}, {Request{Kind: RStat}, "\x09\x00"}, {Request{Kind: RCommit, Id: 300}, "\x05\xac\x02"}, {Request{Kind: RAbort}, "\x06\x00"}, {Request{Kind: RClose, Id: api.MaxCount}, "\x07\x80\x80\x80\x80\x80\x20"},
	{Request{Kind: RLook, Id: 2, Name: "a\xff"}, "\x03\x02\x02a\xff"}, {Request{Kind: RLook}, "\x03\x00\x00"}, {Request{Kind: RAsk, Id: 1, Term: term.Var(5)}, "\x04\x01\x01\x05"}, {Request{Kind: RStage, Id: 1, Decl: sample.Axiom("a", 0, "(* 0)")}, "\x02\x01\x01\x01a\x00\x02\x01\x00"},
}

func TestP24_1Requests(t *testing.T) {
	for i, c := range requests {
		if b, ok := Encode(c.r); !ok || string(b) != c.bytes {
			t.Errorf("%d: %q", i, b)
		}
		if r, err := Decode([]byte(c.bytes)); err != api.OK || !reflect.DeepEqual(r, c.r) {
			t.Error(i, r, err)
		}
		for _, tail := range []string{"\x00", "x"} {
			if r, err := Decode([]byte(c.bytes + tail)); err != api.ErrForm || !reflect.DeepEqual(r, Request{}) {
				t.Error(i, r)
			}
		}
		for n := range len(c.bytes) {
			if r, err := Decode([]byte(c.bytes[:n])); err != api.ErrForm || !reflect.DeepEqual(r, Request{}) {
				t.Error(i, n, r)
			}
		}
	}
	long := Request{Kind: RLook, Id: 1, Name: strings.Repeat("x", 1000)}
	if r, err := Decode(encoded(t, long)); err != api.OK || r.Name != long.Name {
		t.Error("1000 bytes", err)
	}
	if _, err := Decode([]byte("\x03\x01\xe9\x07" + strings.Repeat("x", 1001))); err != api.ErrForm {
		t.Error("1001 bytes", err)
	}
}

func TestP24_1Wrong(t *testing.T) {
	nat, d := sample.Term("nat"), sample.Nat()
	for i, r := range []Request{
		{}, {Kind: 10}, {Kind: -1}, {Kind: ROpen, Id: 1}, {Kind: RSweep, Id: 1}, {Kind: RStat, Id: 2}, {Kind: RCommit, Id: -1}, {Kind: RCommit, Id: api.MaxCount + 1}, {Kind: RClose, Name: "a"}, {Kind: ROpen, Decl: d}, {Kind: ROpen, Decl: api.Decl{Fixed: 1}}, {Kind: ROpen, Decl: api.Decl{Params: 1}}, {Kind: ROpen, Decl: api.Decl{Value: nat}}, {Kind: ROpen, Decl: api.Decl{Ctors: make([]api.Ctor, 1)}}, {Kind: ROpen, Term: nat}, {Kind: RAbort, Term: api.Term{N: 1}},
		{Kind: RStage}, {Kind: RStage, Decl: api.Decl{Kind: 1, Name: "a"}}, {Kind: RStage, Decl: d, Name: "a"}, {Kind: RStage, Decl: d, Term: nat}, {Kind: RLook, Name: strings.Repeat("x", 1001)}, {Kind: RLook, Name: "a", Term: nat}, {Kind: RLook, Name: "a", Decl: d}, {Kind: RAsk}, {Kind: RAsk, Term: term.Var(1 << 40)}, {Kind: RAsk, Term: nat, Name: "a"}, {Kind: RAsk, Term: nat, Decl: d}, {Kind: RAsk, Term: api.Term{Kind: 9}},
	} {
		s := made(t, 1, 1)
		if b, ok := Encode(r); ok || len(b) != 0 {
			t.Errorf("%d: %q", i, b)
		}
		if got := Answer(s.Base(), r); !reflect.DeepEqual(got, Reply{Err: api.ErrForm}) || len(s.Base().Sessions()) != 0 {
			t.Error(i, got)
		}
	}
	for _, b := range []string{"", "\x00", "\x01", "\x0a\x00", "\x01\x01", "\x81\x00\x00", "\x01\x80\x00", "\x05\x81\x80\x80\x80\x80\x20", "\x03\x00\x02a", "\x04\x00\x00", "\x04\x00\x01\x80\x80\x80\x80\x80\x20", "\x02\x00\x01\x01A\x00\x02\x01\x00", "\xff"} {
		if r, err := Decode([]byte(b)); err != api.ErrForm || !reflect.DeepEqual(r, Request{}) {
			t.Errorf("%q: %v", b, r)
		}
	}
}

func TestP24_1Replies(t *testing.T) {
	for i, c := range []struct {
		r     Reply
		bytes string
	}{{Reply{}, "\x00\x00\x00\x00"}, {Reply{N: 1}, "\x00\x00\x01\x00"}, {Reply{Err: 100, Ticks: 300, N: api.MaxCount, Kind: 7}, "\x64\xac\x02\x80\x80\x80\x80\x80\x20\x07"}, {Reply{Kind: 1, Term: sample.Term("(* 0)"), Has: true}, "\x00\x00\x00\x01\x02\x01\x00"}} {
		if b, ok := EncodeReply(c.r); !ok || string(b) != c.bytes {
			t.Errorf("%d: %q", i, b)
		}
		if r, err := DecodeReply([]byte(c.bytes)); err != api.OK || !reflect.DeepEqual(r, c.r) {
			t.Error(i, r, err)
		}
	}
	for i, r := range []Reply{{Err: 101}, {Err: -1}, {Err: math.MinInt}, {Ticks: -1}, {N: -1}, {Kind: -1}, {Ticks: api.MaxCount + 1}, {N: math.MaxInt}, {Kind: api.MaxCount + 1}, {Has: true}, {Term: sample.Term("nat")}, {Term: term.Var(1 << 40), Has: true}, {Term: sample.Term("(* u0)"), Has: false}} {
		if b, ok := EncodeReply(r); ok || len(b) != 0 {
			t.Errorf("%d: %q", i, b)
		}
	}
	for _, b := range []string{"", "\x00\x00\x00", "\x65\x00\x00\x00", "\x00\x00\x00\x00\x00", "\x00\x00\x00\x00\x02\x01\x00\x00", "\x80\x00\x00\x00\x00", "\x00\x00\x00\x00\x02"} {
		if r, err := DecodeReply([]byte(b)); err != api.ErrForm || !reflect.DeepEqual(r, Reply{}) {
			t.Errorf("%q: %v", b, r)
		}
	}
}

// TestP8Bytes: each row of bytes that is read is the one that is written.
func TestP8Bytes(t *testing.T) {
	alphabet := []byte{0, 1, 2, 3, 4, 5, 9, 'a', 128, 129}
	var try func(b []byte, n int)
	try = func(b []byte, n int) {
		if r, err := Decode(b); err == api.OK && !bytes.Equal(encoded(t, r), b) {
			t.Fatalf("%q", b)
		}
		if r, err := DecodeReply(b); err == api.OK {
			if back, ok := EncodeReply(r); !ok || !bytes.Equal(back, b) {
				t.Fatalf("%q", b)
			}
		}
		for _, c := range alphabet {
			if n > 0 {
				try(append(b, c), n-1)
			}
		}
	}
	try(nil, 5)
}

func TestP24_2Answer(t *testing.T) {
	s := made(t, 1, 1)
	typ := sample.Term("(> nat nat)")
	long := api.Decl{Kind: api.DAxiom, Name: "big", Type: typ}
	for i, c := range []struct {
		r    Request
		want Reply
	}{
		{Request{Kind: RStat}, Reply{Ticks: 1}}, {Request{Kind: ROpen}, Reply{N: 1}}, {Request{Kind: RStage, Id: 1, Decl: long}, Reply{Err: api.ErrNone, Ticks: 3}}, {Request{Kind: RStage, Id: 1, Decl: sample.Nat()}, Reply{Ticks: 11}}, {Request{Kind: RStage, Id: 1, Decl: long}, Reply{Ticks: 5}}, {Request{Kind: RLook, Id: 1, Name: "big"}, Reply{Kind: api.DAxiom, Term: typ, Has: true}}, {Request{Kind: RLook, Id: 1, Name: "no"}, Reply{Err: api.ErrNone}}, {Request{Kind: RLook, Id: 9, Name: "big"}, Reply{Err: api.ErrNone}},
		{Request{Kind: RAsk, Id: 1, Term: sample.Term("(big nat.z)")}, Reply{Ticks: 6, Term: sample.Term("nat"), Has: true}}, {Request{Kind: RAsk, Id: 1, Term: sample.Term("(big big big)")}, Reply{Err: api.ErrType, Ticks: 12}}, {Request{Kind: RAsk, Id: 1, Term: term.Var(0)}, Reply{Err: api.ErrForm}}, {Request{Kind: ROpen}, Reply{N: 2}}, {Request{Kind: RStage, Id: 2, Decl: sample.Axiom("p", 0, "(* 0)")}, Reply{Ticks: 2}}, {Request{Kind: RCommit, Id: 1}, Reply{N: 1}}, {Request{Kind: RCommit, Id: 2}, Reply{N: 2, Ticks: 2}}, {Request{Kind: RStage, Id: 2, Decl: sample.Axiom("q", 0, "p")}, Reply{Ticks: 2}},
		{Request{Kind: RAbort, Id: 2}, Reply{N: 1}}, {Request{Kind: RAbort, Id: 2}, Reply{}}, {Request{Kind: RStat}, Reply{N: 2, Kind: 2, Ticks: 3}}, {Request{Kind: RSweep}, Reply{N: 1}}, {Request{Kind: RClose, Id: 1}, Reply{}}, {Request{Kind: RClose, Id: 1}, Reply{Err: api.ErrNone}}, {Request{Kind: RSweep}, Reply{N: 1}}, {Request{Kind: RSweep}, Reply{}}, {Request{Kind: RStat}, Reply{N: 2, Kind: 1, Ticks: 1}}, {Request{Kind: RCommit, Id: 7}, Reply{Err: api.ErrNone}},
	} {
		got := Answer(s.Base(), c.r)
		if !reflect.DeepEqual(got, c.want) && !(got.Err == api.ErrType && c.want.Err == api.ErrType) {
			t.Error(i, got, c.want)
		}
	}
	if s.Count() != 0 {
		t.Error("an Answer isn't served")
	}
}

func TestP24_2Serve(t *testing.T) {
	s, twin := made(t, 1, 1), made(t, 1, 1)
	for i, c := range requests {
		want, _ := EncodeReply(Answer(twin.Base(), c.r))
		if got := s.Serve([]byte(c.bytes)); !bytes.Equal(got, want) || s.Count() != i+1 {
			t.Errorf("%d: %q", i, got)
		}
	}
	for _, b := range []string{"", "\x00", "\x01\x01", strings.Repeat("\x04", 1<<17)} {
		n := s.Count()
		if got := s.Serve([]byte(b)); string(got) != "\x0a\x00\x00\x00" || s.Count() != n+1 {
			t.Errorf("%.9q: %q", b, got)
		}
	}
	if got := made(t, 1, 1).Serve([]byte{1, 0}); string(got) != "\x00\x00\x01\x00" {
		t.Errorf("%q", got)
	}
}

func TestP24_3New(t *testing.T) {
	bad := plain
	bad.Live = 0
	for _, c := range [][2]int{{0, 1}, {9, 1}, {1, 0}, {1, 17}, {-1, 5}, {math.MinInt, 5}, {5, math.MaxInt}} {
		if s, err := New(plain, c[0], c[1]); s != nil || err != api.ErrRange {
			t.Error(c, err)
		}
		if s, err := New(bad, 1, 1); s != nil || err != api.ErrRange {
			t.Error(err)
		}
	}
	made(t, 1, 1)
	made(t, 8, 16)
}

func TestP24_3SendStep(t *testing.T) {
	s := made(t, 3, 2)
	if n, b, err := s.Step(0); n != 0 || len(b) != 0 || err != api.ErrNone {
		t.Error(n, b, err)
	}
	in := []byte{1, 0}
	for i, c := range []struct {
		client, size int
		err          api.Errno
	}{{-1, 2, api.ErrRange}, {3, 1<<16 + 1, api.ErrRange}, {0, 1<<16 + 1, api.ErrMany}, {0, 2, 0}, {0, 1 << 16, 0}, {0, 2, api.ErrFull}, {0, 1<<16 + 1, api.ErrMany}, {2, 0, 0}, {2, 2, 0}} {
		b := append(bytes.Clone(in), make([]byte, 1<<17)...)[:c.size]
		if err := s.Send(c.client, b); err != c.err {
			t.Error(i, err)
		}
		clear(b)
	}
	if s.Waiting(0) != 2 || s.Waiting(1) != 0 || s.Waiting(2) != 2 || s.Waiting(3) != 0 || s.Waiting(-1) != 0 {
		t.Error("waiting")
	}
	for i, c := range []struct {
		pick, client int
		reply        string
		err          api.Errno
	}{{1, 2, "\x0a\x00\x00\x00", 0}, {-3, 2, "\x00\x00\x01\x00", 0}, {math.MaxInt, 0, "\x00\x00\x02\x00", 0}, {math.MinInt, 0, "\x0a\x00\x00\x00", 0}, {7, 0, "", api.ErrNone}} {
		n, b, err := s.Step(c.pick)
		if n != c.client || string(b) != c.reply || err != c.err {
			t.Errorf("%d: %d %q %v", i, n, b, err)
		}
		clear(b)
	}
	if got := s.Replies(2); len(got) != 2 || string(got[0]) != "\x0a\x00\x00\x00" || string(got[1]) != "\x00\x00\x01\x00" || len(s.Replies(1)) != 0 || len(s.Replies(3)) != 0 || len(s.Replies(-1)) != 0 || s.Count() != 4 {
		t.Error(got, s.Count())
	}
}

func TestP24_3Picks(t *testing.T) {
	busy := []int{1, 3, 4}
	for _, c := range []struct{ pick, place int }{{0, 0}, {1, 1}, {2, 2}, {3, 0}, {-1, 1}, {-2, 2}, {-3, 0}, {math.MinInt, 0}, {math.MinInt + 1, math.MaxInt % 3}, {math.MaxInt, math.MaxInt % 3}} {
		s := made(t, 6, 1)
		for _, n := range busy {
			s.Send(n, []byte{9, 0})
		}
		if n, _, err := s.Step(c.pick); n != busy[c.place] || err != api.OK {
			t.Error(c.pick, n, err)
		}
	}
}

func TestP24_4NewMemory(t *testing.T) {
	s := made(t, 1, 4)
	in := []byte{9, 0, 7, 7}[:2]
	s.Send(0, in)
	in[0] = 1
	_, b, _ := s.Step(0)
	keep := bytes.Clone(b)
	clear(b[:cap(b)])
	got := s.Replies(0)
	if !bytes.Equal(got[0], keep) || len(s.Base().Sessions()) != 0 {
		t.Error("kept", got)
	}
	clear(got[0])
	if !bytes.Equal(s.Replies(0)[0], keep) {
		t.Error("handed out")
	}
	x := Request{Kind: RAsk, Id: 1, Term: term.Sort(level.Succ(level.Num(0)))}
	Answer(s.Base(), x)
	if !reflect.DeepEqual(x.Term, sample.Term("(* (+ 0))")) {
		t.Error("changed")
	}
}
