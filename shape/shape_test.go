package shape_test

import (
	"math"
	"math/rand"
	"slices"
	"strings"
	"testing"

	"tendril/api"
	"tendril/shape"
)

// list returns entries with the given terms and the values 1, 2, ..
func list(terms ...string) []api.Entry {
	var l []api.Entry
	for i, t := range terms {
		l = append(l, api.Entry{Term: t, Value: i + 1})
	}
	return l
}

func TestExampleRuns(t *testing.T) {
	l := list("ab", "ac", "b")
	if s := shape.Text(l); s != "(0:[a(0:[b<2:ab>][c<2:ac>])][b<1:b>])" {
		t.Error(s)
	}
	if s := shape.Text(nil); s != "(0:)" {
		t.Error(s)
	}
	if i := shape.Seek(l, "abc"); i != 1 {
		t.Error(i)
	}
	less, v, ok := shape.Drop(l, "ac")
	if !slices.Equal(less, []api.Entry{{Term: "ab", Value: 1}, {Term: "b", Value: 3}}) || v != 2 || !ok {
		t.Error(less, v, ok)
	}
}

// P8.1: which lists are valid.
func TestRight(t *testing.T) {
	for _, l := range [][]api.Entry{
		nil, {}, list("a"), list("a", "aa", "b", "\xff"), {{Term: "a", Value: 0}}, {{Term: strings.Repeat("a", 12), Value: api.MaxValue}},
	} {
		if !shape.Right(l) {
			t.Error(l)
		}
	}
	for _, l := range wrong() {
		if shape.Right(l) || shape.Text(l) != "" {
			t.Error(l)
		}
	}
}

func wrong() [][]api.Entry {
	return [][]api.Entry{
		list(""), list("a", "a"), list("b", "a"), list("a", "c", "b"), list("a\x00"), list(strings.Repeat("a", 13)),
		{{Term: "a", Value: -1}}, {{Term: "a", Value: api.MaxValue + 1}}, {{Term: "a"}, {Term: "b", Value: math.MinInt}},
	}
}

// P8.2: the text of the tree.
func TestText(t *testing.T) {
	for _, c := range []struct {
		l    []api.Entry
		want string
	}{
		{list("a"), "(0:[a<1:a>])"},
		{list("a", "ab"), "(0:[a(0:[\x00<1:a>][b<2:ab>])])"},
		{list("abcd", "abce"), "(0:[a(2:bc[d<4:abcd>][e<4:abce>])])"},
		{list("abcdefghijkl", "abcdefghijkm"), "(0:[a(10:bcdefghijk[l<12:abcdefghijkl>][m<12:abcdefghijkm>])])"},
		{list("a", "abb", "abbc", "abc"), "(0:[a(0:[\x00<1:a>][b(0:[b(0:[\x00<3:abb>][c<4:abbc>])][c<3:abc>])])])"},
		{list("(", "[1:"), "(0:[(<1:(>][[<3:[1:>])"},
		{list("xa", "\xff"), "(0:[x<2:xa>][\xff<1:\xff>])"},
	} {
		if s := shape.Text(c.l); s != c.want {
			t.Errorf("%q", s)
		}
	}
}

// P8.2: values do not show in the text.
func TestTextOfOtherValues(t *testing.T) {
	if shape.Text(list("a", "b")) != shape.Text([]api.Entry{{Term: "a"}, {Term: "b", Value: api.MaxValue}}) {
		t.Error("values show")
	}
}

// P8.3: Seek on any list.
func TestSeek(t *testing.T) {
	odd := list("c", "", "z", "b")
	for _, c := range []struct {
		l    []api.Entry
		from string
		want int
	}{
		{nil, "", 0}, {nil, "a", 0}, {list("a", "c"), "", 0}, {list("a", "c"), "a", 0}, {list("a", "c"), "b", 1},
		{list("a", "c"), "c", 1}, {list("a", "c"), "c\x00", 2}, {odd, "d", 2}, {odd, "a", 0}, {odd, "zz", 4}, {odd, "", 0},
	} {
		if i := shape.Seek(c.l, c.from); i != c.want {
			t.Error(c, i)
		}
	}
}

// P8.4: Put and Drop against a map.
func TestPutAndDrop(t *testing.T) {
	r := rand.New(rand.NewSource(8))
	at := map[string]int{}
	var l []api.Entry
	for i := range 4000 {
		term := string(rune('a'+r.Intn(5))) + strings.Repeat("b", r.Intn(4))
		before := slices.Clone(l)
		was, there := at[term]
		var more []api.Entry
		var v int
		var ok bool
		if r.Intn(2) == 0 {
			more, v, ok = shape.Put(l, api.Entry{Term: term, Value: i})
			at[term] = i
		} else {
			more, v, ok = shape.Drop(l, term)
			delete(at, term)
		}
		if v != was || ok != there || !slices.Equal(before, l) {
			t.Fatal(term, v, ok, was, there)
		}
		if !shape.Right(more) || len(more) != len(at) {
			t.Fatal(more)
		}
		for _, e := range more {
			if v, there := at[e.Term]; !there || v != e.Value {
				t.Fatal(more, e)
			}
		}
		l = more
	}
}

// R2: results are separate from the arguments, and unused capacity stays.
func TestNoSharedMemory(t *testing.T) {
	whole := list("a", "b", "c", "d")
	want := slices.Clone(whole)
	l := whole[:3]
	put, _, _ := shape.Put(l, api.Entry{Term: "bb"})
	last, _, _ := shape.Put(l, api.Entry{Term: "x"})
	again, _, _ := shape.Put(l, api.Entry{Term: "b", Value: 9})
	drop, _, _ := shape.Drop(l, "a")
	none, v, ok := shape.Drop(l, "zz")
	if v != 0 || ok || !slices.Equal(none, l) {
		t.Error(none, v, ok)
	}
	for _, m := range [][]api.Entry{put, last, again, drop, none} {
		m = m[:cap(m)]
		for i := range m {
			m[i].Term = "?"
		}
	}
	if !slices.Equal(whole, want) {
		t.Error(whole)
	}
}

// R1: lists that are not valid are no reason to panic.
func TestWrongLists(t *testing.T) {
	for _, l := range wrong() {
		shape.Put(l, api.Entry{Term: "a"})
		shape.Drop(l, "a")
		shape.Seek(l, "b")
	}
}
