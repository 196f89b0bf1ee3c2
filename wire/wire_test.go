package wire

import (
	"bytes"
	"math"
	"slices"
	"strings"
	"testing"

	"scholium/api"
)

var numbers = []struct {
	n    int
	want []byte
}{
	{0, []byte{0}}, {1, []byte{1}}, {127, []byte{127}}, {128, []byte{128, 1}}, {300, []byte{172, 2}}, {16383, []byte{255, 127}}, {16384, []byte{128, 128, 1}},
	{api.MaxCount - 1, []byte{255, 255, 255, 255, 255, 31}}, {api.MaxCount, []byte{128, 128, 128, 128, 128, 32}},
}

func TestP2_1Nums(t *testing.T) {
	var all []byte
	var list []int
	for _, c := range numbers {
		got, ok := Nums(c.n)
		if !ok || !bytes.Equal(got, c.want) || Size(c.n) != len(c.want) {
			t.Error(c.n, got, ok, Size(c.n))
		}
		all, list = append(all, c.want...), append(list, c.n)
	}
	if got, ok := Nums(list...); !ok || !bytes.Equal(got, all) {
		t.Error(got, ok)
	}
	if got, ok := Nums(); !ok || len(got) != 0 {
		t.Error(got, ok)
	}
	for _, n := range []int{-1, api.MaxCount + 1, math.MaxInt, math.MinInt} {
		if got, ok := Nums(1, n, 2); ok || len(got) != 0 || Size(n) != 0 {
			t.Error(n, got, ok, Size(n))
		}
	}
}

func TestP2_1TextsAndList(t *testing.T) {
	long := strings.Repeat("x", 300)
	if got := Texts("ab", "", long); string(got) != "\x02ab\x00\xac\x02"+long {
		t.Error(got)
	}
	if got := List("ab", ""); string(got) != "\x02\x02ab\x00" {
		t.Error(got)
	}
	if len(Texts()) != 0 || string(List()) != "\x00" {
		t.Error("of none")
	}
}

func TestP2_2Num(t *testing.T) {
	for _, c := range numbers {
		for _, tail := range []string{"", "\x00", "\xff\xff"} {
			n, rest, ok := Num(append(slices.Clone(c.want), tail...))
			if n != c.n || string(rest) != tail || !ok {
				t.Error(c.n, n, rest, ok)
			}
		}
	}
	for _, s := range []string{"", "\x80", "\x80\x00", "\xac\x82\x00", "\x81\x80\x80\x80\x80\x20", "\x80\x80\x80\x80\x80\x21", "\xff\xff\xff\xff\xff\xff\xff\xff\x7f", "\x80\x80\x80\x80\x80\x80\x01", "\xff"} {
		if n, rest, ok := Num([]byte(s)); n != 0 || len(rest) != 0 || ok {
			t.Errorf("%q: %d %q %v", s, n, rest, ok)
		}
	}
}

func TestP2_2TextAndTake(t *testing.T) {
	if s, rest, ok := Text([]byte("\x02abc")); s != "ab" || string(rest) != "c" || !ok {
		t.Error(s, rest, ok)
	}
	for _, b := range []string{"", "\x01", "\x03ab", "\x81\x00a", "\x80\x80\x80\x80\x80\x20a"} {
		if s, rest, ok := Text([]byte(b)); s != "" || len(rest) != 0 || ok {
			t.Errorf("%q: %q %q", b, s, rest)
		}
	}
	b := List("a", "", "bc")
	if l, rest, ok := Take(append(b, 'x'), 3); !ok || !slices.Equal(l, []string{"a", "", "bc"}) || string(rest) != "x" {
		t.Error(l, rest, ok)
	}
	if l, rest, ok := Take([]byte{0, 7}, 0); !ok || len(l) != 0 || string(rest) != "\x07" {
		t.Error(l, rest, ok)
	}
	for _, c := range []struct {
		b    string
		most int
	}{{string(b), 2}, {string(b), -1}, {string(b[:len(b)-1]), 3}, {"", 1}, {"\x00", -1}, {"\x80\x80\x80\x80\x80\x20", math.MaxInt}, {"\x80\x00", 1}, {"\x01", 1}} {
		if l, rest, ok := Take([]byte(c.b), c.most); ok || len(l) != 0 || len(rest) != 0 {
			t.Errorf("%q: %q %q", c.b, l, rest)
		}
	}
}

func TestP2_3ReadIsWritten(t *testing.T) {
	for a := range 256 {
		for b := range 256 {
			in := []byte{byte(a), byte(b), 5}
			n, rest, ok := Num(in)
			if !ok {
				continue
			}
			back, _ := Nums(n)
			if !bytes.Equal(append(back, rest...), in) {
				t.Fatal(in, n)
			}
		}
	}
	list := []string{"", "a", strings.Repeat("y", 200)}
	back, rest, ok := Take(List(list...), 3)
	if !ok || len(rest) != 0 || !slices.Equal(back, list) {
		t.Error(back)
	}
}

func TestP2_3NewMemory(t *testing.T) {
	in := []byte{1, 'a', 9, 9, 9}
	keep := slices.Clone(in)
	_, r1, _ := Num(in)
	_, r2, _ := Text(in)
	_, r3, _ := Take(in[:3], 1)
	_, r4, _ := Take([]byte{0, 1, 2}, 5)
	for _, r := range [][]byte{r1, r2, r3, r4} {
		for i := range r[:cap(r)] {
			r[:cap(r)][i] = 77
		}
	}
	if !bytes.Equal(in, keep) {
		t.Error(in)
	}
}
