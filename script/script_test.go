package script

import (
	"bytes"
	"math"
	"reflect"
	"strings"
	"testing"

	"scholium/api"
	"scholium/sample"
	"scholium/serve"
	"scholium/sess"
	"scholium/term"
)

var plain = sess.Config{Sessions: 3, Ids: 50, Staged: 3, Live: 4, Last: 50, Fuel: 5000}

func made(t *testing.T) *serve.Server {
	t.Helper()
	s, err := serve.New(plain, 3, 2)
	if err != api.OK {
		t.Fatal(err)
	}
	return s
}

var events = []struct {
	ev   Event
	line string
}{
	{Event{Client: 0, Bytes: []byte{1, 0}}, "send 0 0100"}, {Event{Client: 7, Bytes: []byte{0xab, 0xff, 9}}, "send 7 abff09"}, {Event{Client: 3}, "send 3 -"}, {Event{}, "send 0 -"}, {Event{Step: true}, "step 0"}, {Event{Step: true, Pick: -12}, "step -12"}, {Event{Step: true, Pick: math.MaxInt}, "step 9223372036854775807"}, {Event{Step: true, Pick: math.MinInt}, "step -9223372036854775808"}, {Event{Bytes: make([]byte, 10000)}, "send 0 " + strings.Repeat("00", 10000)},
}

func TestP26_1Line(t *testing.T) {
	for i, c := range events {
		if got := Line(c.ev); got != c.line {
			t.Error(i, got)
		}
		if ev, ok := Read(c.line); !ok || !reflect.DeepEqual(ev, c.ev) {
			t.Error(i, ev, ok)
		}
	}
	for i, ev := range []Event{{Step: true, Client: 1}, {Step: true, Bytes: []byte{1}}, {Pick: 1}, {Pick: -1, Bytes: []byte{1}}, {Client: 8}, {Client: -1}, {Client: math.MaxInt}, {Bytes: make([]byte, 10001)}} {
		if got := Line(ev); got != "" {
			t.Error(i, got)
		}
	}
	for _, s := range []string{"", " ", "#", "step", "step ", "step 01", "step +1", "step -0", "step 0 ", " step 0", "step  0", "step 0\n", "step 9223372036854775808", "step a", "Step 0", "steps 0", "send", "send 0", "send 0 ", "send 0 0", "send 0 000", "send 0 AB", "send 0 0g", "send 0 --", "send 0 -0", "send 0 00 00", "send 8 00", "send -1 00", "send 00 00", "send 0 00\r", "send x 00", "send 0 " + strings.Repeat("00", 10001), "open"} {
		if ev, ok := Read(s); ok || !reflect.DeepEqual(ev, Event{}) {
			t.Errorf("%.20q: %v", s, ev)
		}
	}
}

func TestP26_2ShowParse(t *testing.T) {
	var list []Event
	var want string
	for _, c := range events {
		list, want = append(list, c.ev), want+c.line+"\n"
	}
	if got, ok := Show(list); !ok || got != want {
		t.Error(ok)
	}
	if got, ok := Show(nil); !ok || got != "" {
		t.Error(got, ok)
	}
	if got, ok := Show(append(list, Event{Client: 9})); ok || got != "" {
		t.Error(got, ok)
	}
	for i, c := range []struct {
		text string
		n    int
		err  api.Errno
		want []Event
	}{
		{want, 0, 0, list}, {"", 0, 0, nil}, {"\n\n# anything \xff\n#\n", 0, 0, nil}, {"step 1", 0, 0, []Event{{Step: true, Pick: 1}}}, {"\n# a\nsend 1 -\n\nstep -2", 0, 0, []Event{{Client: 1}, {Step: true, Pick: -2}}}, {"step 1\nstep 01\nstep x", 2, api.ErrForm, nil}, {"step 1\n#\n\n #", 4, api.ErrForm, nil}, {" ", 1, api.ErrForm, nil}, {"step 1\r\n", 1, api.ErrForm, nil}, {"step 1\nstep 2\n ", 3, api.ErrForm, nil},
	} {
		got, n, err := Parse(c.text)
		if n != c.n || err != c.err || len(got) != len(c.want) || len(got) > 0 && !reflect.DeepEqual(got, c.want) {
			t.Error(i, got, n, err)
		}
	}
}

func TestP26_2Run(t *testing.T) {
	list, _, err := Parse("step 0\nsend 0 0100\nsend 2 0900\nsend 2 -\nsend 2 0100\nsend 5 0100\nstep 1\nstep -1\nstep 1\nstep 0\n")
	if err != api.OK {
		t.Fatal(err)
	}
	want := []Outcome{{Err: api.ErrNone}, {}, {Client: 2}, {Client: 2}, {Client: 2, Err: api.ErrFull}, {Client: 5, Err: api.ErrRange}, {Client: 2, Reply: []byte{0, 1, 0, 0}}, {Client: 2, Reply: []byte{10, 0, 0, 0}}, {Client: 0, Reply: []byte{0, 0, 1, 0}}, {Err: api.ErrNone}}
	s := made(t)
	if got := Run(s, list); !reflect.DeepEqual(got, want) || s.Count() != 3 {
		t.Error(got)
	}
	if len(Run(s, nil)) != 0 {
		t.Error("of none")
	}
	odd := []Event{{Client: -3, Pick: 9, Bytes: []byte{1}}, {Step: true, Client: 9, Bytes: []byte{1}}}
	if got := Run(s, odd); !reflect.DeepEqual(got, []Outcome{{Client: -3, Err: api.ErrRange}, {Err: api.ErrNone}}) {
		t.Error(got)
	}
}

func TestP26_3Say(t *testing.T) {
	nat := sample.Nat()
	for i, c := range []struct {
		r    serve.Request
		want string
	}{
		{serve.Request{Kind: serve.ROpen}, "open"}, {serve.Request{Kind: serve.RSweep}, "sweep"}, {serve.Request{Kind: serve.RStat}, "stat"}, {serve.Request{Kind: serve.RCommit, Id: 3}, "commit 3"}, {serve.Request{Kind: serve.RAbort}, "abort 0"}, {serve.Request{Kind: serve.RClose, Id: api.MaxCount}, "close 1099511627776"}, {serve.Request{Kind: serve.RLook, Id: 2, Name: "a b\n\xff"}, "look 2 a b\n\xff"}, {serve.Request{Kind: serve.RLook, Id: 2}, "look 2 "},
		{serve.Request{Kind: serve.RAsk, Id: 1, Term: sample.Term("(f #0)")}, "ask 1 (f #0)"}, {serve.Request{Kind: serve.RStage, Id: 4, Decl: nat}, "stage 4 ind nat 0 (* 1) 0 [nat.z nat] [nat.s (> nat nat)]"}, {serve.Request{Kind: serve.RStage, Id: 4, Decl: sample.Def("d", 1, "(* u0)", "nat")}, "stage 4 def d 1 (* u0) := nat"},
	} {
		b, ok := serve.Encode(c.r)
		keep := bytes.Clone(b)
		if got := Say(b); got != c.want || !ok || !bytes.Equal(b, keep) {
			t.Errorf("%d: %q", i, got)
		}
	}
	if Say([]byte("\x04\x00"+"\x01\x05")) != "ask 0 #5" {
		t.Error("ask")
	}
	if _, ok := serve.Encode(serve.Request{Kind: serve.RAsk, Term: term.Var(1 << 40)}); ok {
		t.Error("far")
	}
}

func TestP26_3SayNone(t *testing.T) {
	for i, b := range [][]byte{nil, {}, {0}, {0, 0}, {1}, {1, 1}, {1, 0, 0}, {2, 0}, {3}, {3, 2, 1}, {3, 2, 1, 'a', 'b'}, {4, 0}, {4, 0, 0}, {5}, {8, 1}, {10, 0}, {255}, {0x63}, {0x81, 0, 0}, []byte("none")} {
		keep := bytes.Clone(b)
		if got := Say(b); got != "none" || !bytes.Equal(b, keep) {
			t.Errorf("%d: %q", i, got)
		}
	}
	for b, want := range map[string]string{"\x01\x00": "open", "\x03\x02\x01a": "look 2 a", "\x03\x00\x04none": "look 0 none", "\x05\x07": "commit 7", "\x08\x00": "sweep"} {
		if got := Say([]byte(b)); got != want {
			t.Errorf("%q: %q", b, got)
		}
	}
}

func TestP26_3NewMemory(t *testing.T) {
	in := []Event{{Client: 1, Bytes: []byte{9, 0}}, {Step: true}}
	s := made(t)
	out := Run(s, in[:1])
	in[0].Bytes[0] = 1
	out = append(out, Run(s, in[1:])...)
	clear(out[1].Reply)
	if got := s.Replies(1); len(got) != 1 || !bytes.Equal(got[0], []byte{0, 1, 0, 0}) {
		t.Error(got)
	}
}
