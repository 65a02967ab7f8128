package block_test

import (
	"bytes"
	"math"
	"math/rand"
	"slices"
	"testing"

	"tendril/api"
	"tendril/block"
)

// count returns the ids from first on, so many of them.
func count(first, n int) []int {
	var l []int
	for i := range n {
		l = append(l, first+i)
	}
	return l
}

func TestExampleRuns(t *testing.T) {
	b := []byte{0x05, 0x00, 0xC1, 0x01}
	if got := block.Encode([]int{5, 6, 200}); !bytes.Equal(got, b) {
		t.Error(got)
	}
	if l, e := block.Decode(b); !slices.Equal(l, []int{5, 6, 200}) || e != api.OK {
		t.Error(l, e)
	}
	if l, e := block.Decode([]byte{0x80, 0}); l != nil || e != api.ErrForm {
		t.Error(l, e)
	}
}

// P19.1: which blocks are valid.
func TestRight(t *testing.T) {
	for _, l := range [][]int{
		{0}, {api.MaxDoc}, {0, api.MaxDoc}, count(0, 16), count(api.MaxDoc-15, 16), {3, 5},
	} {
		if !block.Right(l) {
			t.Error(l)
		}
	}
	for _, l := range [][]int{
		nil, {}, count(0, 17), {-1}, {api.MaxDoc + 1}, {0, api.MaxDoc + 1}, {-1, 0}, {1, 1}, {2, 1}, {1, 3, 2},
		{math.MinInt}, {math.MaxInt}, {math.MinInt, math.MaxInt},
	} {
		if block.Right(l) || block.Encode(l) != nil {
			t.Error(l)
		}
	}
}

// P19.2: numbers in groups of seven bits.
func TestEncode(t *testing.T) {
	for _, c := range []struct {
		l    []int
		want []byte
	}{
		{[]int{0}, []byte{0}},
		{[]int{0, 1}, []byte{0, 0}},
		{[]int{127}, []byte{127}},
		{[]int{128}, []byte{128, 1}},
		{[]int{1, 129}, []byte{1, 127}},
		{[]int{1, 130}, []byte{1, 128, 1}},
		{[]int{16383}, []byte{255, 127}},
		{[]int{16384}, []byte{128, 128, 1}},
		{[]int{api.MaxDoc}, []byte{128, 128, 128, 128, 4}},
		{[]int{0, api.MaxDoc}, []byte{0, 255, 255, 255, 255, 3}},
	} {
		if b := block.Encode(c.l); !bytes.Equal(b, c.want) {
			t.Error(c.l, b)
		}
	}
}

// P19.3: bytes that are the Encode of nothing.
func TestDecodeOther(t *testing.T) {
	for _, b := range [][]byte{
		nil, {}, {128}, {5, 128}, {128, 0}, {129, 128, 0}, {0, 128, 0}, // no end, or more bytes than needed
		{128, 128, 128, 128, 5}, {129, 128, 128, 128, 4}, {128, 128, 128, 128, 4, 0}, {0, 128, 128, 128, 128, 4}, // too large
		{255, 255, 255, 255, 255, 255, 255, 255, 255, 1}, {255, 255, 255, 255, 255, 255, 255, 255, 255, 255, 127},
		{128, 128, 128, 128, 128, 1}, {255, 255, 255, 255, 127},
		make([]byte, 17),
	} {
		if l, e := block.Decode(b); l != nil || e != api.ErrForm {
			t.Error(b, l, e)
		}
	}
	if l, e := block.Decode(make([]byte, 16)); !slices.Equal(l, count(0, 16)) || e != api.OK {
		t.Error(l, e)
	}
}

// P19.3: Decode reads what Encode wrote, and nothing else.
func TestRoundTrip(t *testing.T) {
	r := rand.New(rand.NewSource(19))
	for range 20000 {
		l := make([]int, 1+r.Intn(16))
		for i := range l {
			l[i] = r.Intn(1 << (1 + r.Intn(30)))
		}
		slices.Sort(l)
		l = slices.Compact(l)
		b := block.Encode(l)
		if got, e := block.Decode(b); !slices.Equal(got, l) || e != api.OK {
			t.Fatal(l, got, e)
		}
		b[r.Intn(len(b))] ^= 1 << r.Intn(8)
		if got, e := block.Decode(b); e == api.OK && !bytes.Equal(block.Encode(got), b) || e != api.OK && (got != nil || e != api.ErrForm) {
			t.Fatal(b, got, e)
		}
	}
}
