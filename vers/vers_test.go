package vers

import (
	"math"
	"slices"
	"testing"

	"scholium/api"
	"scholium/env"
)

func made(t *testing.T, most, last int) (*Store, *env.Env) {
	t.Helper()
	v := env.New()
	s, err := New(v, most, last)
	if err != api.OK || s == nil {
		t.Fatal(err)
	}
	return s, v
}

func TestP22_1New(t *testing.T) {
	for _, c := range [][2]int{{0, 5}, {-1, 5}, {65, 5}, {1, -1}, {1, api.MaxCount + 1}, {math.MinInt, math.MaxInt}} {
		if s, err := New(env.New(), c[0], c[1]); s != nil || err != api.ErrRange {
			t.Error(c, err)
		}
	}
	for _, c := range [][2]int{{1, 0}, {64, api.MaxCount}} {
		s, v := made(t, c[0], c[1])
		if got, ok := s.Env(0); got != v || !ok || s.Head() != 0 || s.Pins(0) != 0 || !slices.Equal(s.Live(), []int{0}) {
			t.Error(c)
		}
		for _, n := range []int{-1, 1, math.MinInt, math.MaxInt} {
			if got, ok := s.Env(n); got != nil || ok {
				t.Error(n)
			}
		}
	}
}

func TestP22_2Pins(t *testing.T) {
	s, v := made(t, 9, 9)
	s.Push(v)
	for i, c := range []struct {
		do   func(n int) api.Errno
		n    int
		err  api.Errno
		pins int
	}{{s.Unpin, 0, api.ErrNone, 0}, {s.Pin, 0, 0, 1}, {s.Pin, 0, 0, 2}, {s.Unpin, 0, 0, 1}, {s.Pin, 1, 0, 1}, {s.Unpin, 0, 0, 0}, {s.Unpin, 0, api.ErrNone, 0}, {s.Pin, 2, api.ErrNone, 0}, {s.Unpin, 2, api.ErrNone, 0}, {s.Pin, -1, api.ErrNone, 0}, {s.Unpin, math.MinInt, api.ErrNone, 0}, {s.Unpin, 1, 0, 0}} {
		if err := c.do(c.n); err != c.err || s.Pins(c.n) != c.pins {
			t.Error(i, err, s.Pins(c.n))
		}
	}
}

func TestP22_3RoomPush(t *testing.T) {
	s, v := made(t, 3, 4)
	other := env.New()
	for n := 1; n <= 2; n++ {
		if got, err := s.Push(other); got != n || err != api.OK || s.Head() != n {
			t.Error(n, got, err)
		}
	}
	if got, err := s.Push(v); got != 0 || err != api.ErrFull || s.Room() != api.ErrFull || s.Head() != 2 {
		t.Error(got, err)
	}
	if got, _ := s.Env(1); got != other {
		t.Error("env")
	}
	s.Sweep()
	s.Push(v)
	s.Push(v)
	if got, err := s.Push(v); got != 0 || err != api.ErrCount || s.Room() != api.ErrCount || s.Head() != 4 {
		t.Error(got, err)
	}
	s.Sweep()
	if s.Room() != api.ErrCount {
		t.Error("there is room, but no number")
	}
	one, _ := made(t, 1, 0)
	if one.Room() != api.ErrCount {
		t.Error("the counter is told first")
	}
}

func TestP22_3Sweep(t *testing.T) {
	s, v := made(t, 9, 9)
	for range 5 {
		s.Push(v)
	}
	s.Pin(1)
	s.Pin(3)
	if got := s.Sweep(); !slices.Equal(got, []int{0, 2, 4}) || !slices.Equal(s.Live(), []int{1, 3, 5}) {
		t.Error(got, s.Live())
	}
	if got := s.Sweep(); len(got) != 0 {
		t.Error(got)
	}
	s.Unpin(1)
	if got := s.Sweep(); !slices.Equal(got, []int{1}) {
		t.Error(got)
	}
	if _, ok := s.Env(1); ok || s.Pin(1) != api.ErrNone || s.Pins(1) != 0 || s.Unpin(1) != api.ErrNone {
		t.Error("it is live no more")
	}
}

func TestP22_4AlwaysLive(t *testing.T) {
	s, v := made(t, 4, 100)
	for n := range 60 {
		if n%5 == 0 {
			s.Pin(s.Head())
		}
		if n%7 == 0 {
			for _, x := range s.Live() {
				s.Unpin(x)
			}
		}
		s.Push(v)
		live := s.Live()
		live[0] = -9
		if n%3 == 0 {
			s.Sweep()
		}
		if len(s.Live()) > 4 || !slices.Contains(s.Live(), s.Head()) || s.Live()[0] < 0 {
			t.Fatal(s.Live())
		}
	}
	s, v = made(t, 4, 9)
	s.Pin(0)
	s.Push(v)
	s.Push(v)
	if got := s.Sweep(); !slices.Equal(got, []int{1}) || s.Pins(0) != 1 {
		t.Error(got)
	}
}
