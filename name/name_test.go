package name

import (
	"slices"
	"strings"
	"testing"
)

var wrong = []string{"", ".", "a.", ".a", "a..b", "1", "a.1b", "9a", "A", "a-b", "a b", "\x00", "é", "a\xff", strings.Repeat("a", 41), "a." + strings.Repeat("b", 39)}

func TestP1_1Right(t *testing.T) {
	for _, s := range []string{"a", "z", "_", "a0", "_9", "nat.add", "a1._2", strings.Repeat("a", 40), "a." + strings.Repeat("b", 38)} {
		if !Right(s) {
			t.Errorf("%q is a name", s)
		}
	}
	for _, s := range wrong {
		if Right(s) {
			t.Errorf("%q is none", s)
		}
	}
}

func TestP1_1Parts(t *testing.T) {
	if got := Parts("nat.add._1"); !slices.Equal(got, []string{"nat", "add", "_1"}) {
		t.Error(got)
	}
	if got := Parts("x"); !slices.Equal(got, []string{"x"}) {
		t.Error(got)
	}
	for _, s := range wrong {
		if len(Parts(s)) != 0 {
			t.Errorf("%q has parts", s)
		}
	}
}

func TestP1_1Join(t *testing.T) {
	long := strings.Repeat("a", 38)
	for _, c := range []struct {
		parts []string
		want  string
	}{
		{[]string{"a"}, "a"}, {[]string{"a", "b.c", "d"}, "a.b.c.d"}, {[]string{long, "b"}, long + ".b"},
		{nil, ""}, {[]string{""}, ""}, {[]string{"a", ""}, ""}, {[]string{"a", "1"}, ""}, {[]string{"a", ".b"}, ""},
		{[]string{long + "a", "b"}, ""}, {[]string{long, "bc"}, ""}, {make([]string, 100), ""},
	} {
		if got, ok := Join(c.parts...); got != c.want || ok != (c.want != "") {
			t.Error(c.parts, got, ok)
		}
	}
}

func TestP1_2ParentLastUnder(t *testing.T) {
	if Parent("a.b.c") != "a.b" || Parent("a") != "" || Last("a.b.c") != "c" || Last("a") != "a" {
		t.Error("parent or last")
	}
	for _, s := range wrong {
		if Parent(s) != "" || Last(s) != "" || Under(s, s) || Under(s, "a") || Under("a.b", s) {
			t.Errorf("%q is no name", s)
		}
	}
	if !Under("a", "a") || !Under("a.b", "a") || !Under("a.b.c", "a.b") || Under("ab", "a") || Under("a", "a.b") || Under("a.bc", "a.b") {
		t.Error("under")
	}
}

func TestP1_3Fresh(t *testing.T) {
	long := strings.Repeat("a", 40)
	var many []string
	for len(many) < 10 {
		many = append(many, Fresh(long, many...))
	}
	if many[9] != long[:38]+"_9" || Fresh(long, many...) != long[:37]+"_10" {
		t.Error(many)
	}
	dotted := strings.Repeat("a", 36) + ".b.c"
	for _, c := range []struct {
		s     string
		taken []string
		want  string
	}{
		{"x", nil, "x"}, {"x", []string{"x"}, "x_1"}, {"x", []string{"x_1", "x"}, "x_2"}, {"x", []string{"x_1"}, "x"},
		{"x", []string{"x", "x_2"}, "x_1"}, {"a.b", []string{"a.b"}, "a.b_1"}, {dotted, []string{dotted}, strings.Repeat("a", 36) + ".b_1"},
		{strings.Repeat("a", 37) + ".b", []string{strings.Repeat("a", 37) + ".b"}, strings.Repeat("a", 37) + "_1"},
	} {
		if got := Fresh(c.s, c.taken...); got != c.want || !Right(got) {
			t.Error(c.s, c.taken, got)
		}
	}
	for _, s := range wrong {
		if Fresh(s) != "" || Fresh(s, s) != "" {
			t.Errorf("%q is no name", s)
		}
	}
}

func TestP1_3Sort(t *testing.T) {
	if got := Sort([]string{"b", "a.b", "a", "b", "", "\xff", "B", "a_"}); !slices.Equal(got, []string{"", "B", "a", "a.b", "a_", "b", "\xff"}) {
		t.Error(got)
	}
	if len(Sort(nil)) != 0 {
		t.Error("of none")
	}
}

func TestP1_4NewMemory(t *testing.T) {
	in := []string{"c", "a", "a", "b", "spare"}[:4]
	out := Sort(in)
	for i := range out[:cap(out)] {
		out[:cap(out)][i] = "x"
	}
	Fresh("a", in...)
	if _, ok := Join(in...); !ok || !slices.Equal(in[:5], []string{"c", "a", "a", "b", "spare"}) {
		t.Error(in)
	}
	one, two := Parts("a.b"), Parts("a.b")
	one[0] = "x"
	if two[0] != "a" {
		t.Error("shared")
	}
}
