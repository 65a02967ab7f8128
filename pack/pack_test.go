package pack_test

import (
	"math"
	"slices"
	"strings"
	"testing"

	"tendril/api"
	"tendril/pack"
)

func TestExampleRuns(t *testing.T) {
	w := pack.Words("ab")
	if !slices.Equal(w, []uint64{25185}) {
		t.Error(w)
	}
	if s, e := pack.Bytes(w, 2); s != "ab" || e != api.OK {
		t.Error(s, e)
	}
	if s, e := pack.Bytes(w, 1); s != "" || e != api.ErrForm {
		t.Error(s, e)
	}
	if n := pack.Count(9); n != 2 {
		t.Error(n)
	}
}

// P2.1: as few words as possible, the first byte least significant.
func TestWords(t *testing.T) {
	for _, c := range []struct {
		s    string
		want []uint64
	}{
		{"", nil},
		{"\x00", []uint64{0}},
		{"\xff", []uint64{255}},
		{"abcdefgh", []uint64{0x6867666564636261}},
		{"abcdefghi", []uint64{0x6867666564636261, 0x69}},
		{"\x00\x00\x00\x00\x00\x00\x00\x80\x01", []uint64{1 << 63, 1}},
	} {
		if w := pack.Words(c.s); !slices.Equal(w, c.want) {
			t.Errorf("%q %x", c.s, w)
		}
	}
}

// P2.1: how many words n bytes need.
func TestCount(t *testing.T) {
	for _, c := range [][2]int{
		{math.MinInt, 0}, {-1, 0}, {0, 0}, {1, 1}, {7, 1}, {8, 1}, {9, 2}, {16, 2}, {17, 3},
		{math.MaxInt, 1 << 60},
	} {
		if n := pack.Count(c[0]); n != c[1] {
			t.Error(c, n)
		}
	}
}

// P2.2: the errors of Bytes, in their order.
func TestBytes(t *testing.T) {
	for _, c := range []struct {
		l    []uint64
		n    int
		want string
		err  api.Errno
	}{
		{nil, 0, "", api.OK},
		{nil, 1, "", api.ErrArg},
		{nil, -1, "", api.ErrArg},
		{[]uint64{1}, -1, "", api.ErrArg},
		{[]uint64{1}, 9, "", api.ErrArg},
		{[]uint64{1}, math.MaxInt, "", api.ErrArg},
		{[]uint64{1}, math.MinInt, "", api.ErrArg},
		{[]uint64{1}, 0, "", api.ErrForm},
		{[]uint64{0, 0}, 0, "", api.OK},
		{[]uint64{0, 1}, 8, "", api.ErrForm},
		{[]uint64{1 << 63}, 7, "", api.ErrForm},
		{[]uint64{1 << 63}, 8, "\x00\x00\x00\x00\x00\x00\x00\x80", api.OK},
		{[]uint64{0x61, 0}, 1, "a", api.OK},
		{[]uint64{0x61, 0}, 9, "a\x00\x00\x00\x00\x00\x00\x00\x00", api.OK},
		{[]uint64{0x61, 0, 1}, 9, "", api.ErrForm},
	} {
		if s, e := pack.Bytes(c.l, c.n); s != c.want || e != c.err {
			t.Errorf("%x %d: %q %d", c.l, c.n, s, e)
		}
	}
}

// P2.3: Bytes reads what Words wrote, and nothing shorter unless 0s end it.
func TestRoundTrip(t *testing.T) {
	for n := range 40 {
		s := strings.Repeat("\xf0a\x01", 14)[:n]
		w := pack.Words(s)
		if len(w) != pack.Count(n) {
			t.Error(n, len(w))
		}
		if got, e := pack.Bytes(w, n); got != s || e != api.OK {
			t.Errorf("%d %q %d", n, got, e)
		}
		for less := range n {
			if got, e := pack.Bytes(w, less); got != "" || e != api.ErrForm {
				t.Errorf("%d of %d: %q %d", less, n, got, e)
			}
		}
	}
	if got, e := pack.Bytes(pack.Words("ab\x00\x00"), 2); got != "ab" || e != api.OK {
		t.Errorf("%q %d", got, e)
	}
}

// R2: the words that are read stay as they are.
func TestArgumentsStay(t *testing.T) {
	l := []uint64{25185, 0, 7}
	pack.Bytes(l[:2], 2)
	if !slices.Equal(l, []uint64{25185, 0, 7}) {
		t.Error(l)
	}
}
