package node_test

import (
	"math"
	"math/rand"
	"reflect"
	"slices"
	"strings"
	"testing"

	"tendril/api"
	"tendril/arena"
	"tendril/node"
	"tendril/word"
)

var kinds = []int{api.C4, api.C16, api.C48, api.C256}

var noKinds = []int{api.CLeaf, -1, api.Classes, math.MinInt, math.MaxInt}

func small() api.Node {
	return api.Node{Kind: api.C4, Word: 4, Prefix: "x", Keys: []byte("ac"), Kids: []int{65536, 65537}}
}

// filled returns a node of a kind with children for the bytes 0, step, ..
func filled(kind, children, step int) api.Node {
	n := api.Node{Kind: kind, Word: 12, Prefix: "pre"}
	for i := range children {
		n.Keys = append(n.Keys, byte(i*step))
		n.Kids = append(n.Kids, word.Ref(i, 3, i%2 == 0))
	}
	return n
}

func same(a, b api.Node) bool {
	return a.Kind == b.Kind && a.Word == b.Word && a.Prefix == b.Prefix &&
		slices.Equal(a.Keys, b.Keys) && slices.Equal(a.Kids, b.Kids)
}

func isZero(n api.Node) bool { return same(n, api.Node{}) }

func copied(n api.Node) api.Node {
	n.Keys, n.Kids = slices.Clone(n.Keys), slices.Clone(n.Kids)
	return n
}

func TestExampleRuns(t *testing.T) {
	n := small()
	if w := node.Encode(n); !slices.Equal(w, []uint64{4, 131329, 120, 0, 25441, 65536, 65537, 0, 0, 0, 0, 0}) {
		t.Error(w)
	}
	m, ok := node.With(n, 'b', 65538)
	if !ok || string(m.Keys) != "abc" || !slices.Equal(m.Kids, []int{65536, 65538, 65537}) {
		t.Error(m, ok)
	}
	if m, ok := node.Without(n, 'c'); !ok || string(m.Keys) != "a" || !slices.Equal(m.Kids, []int{65536}) {
		t.Error(m, ok)
	}
	m, _ = node.With(m, 'd', 65539)
	if m, ok := node.With(m, 'e', 65540); ok || !isZero(m) {
		t.Error(m, ok)
	}
}

// P7.1: the bands of the kinds.
func TestBands(t *testing.T) {
	for i, kind := range kinds {
		if node.High(kind) != []int{4, 16, 48, 256}[i] || node.Low(kind) != []int{2, 4, 13, 38}[i] {
			t.Error(kind, node.High(kind), node.Low(kind))
		}
	}
	for _, kind := range noKinds {
		if node.High(kind) != 0 || node.Low(kind) != 0 {
			t.Error(kind, node.High(kind), node.Low(kind))
		}
	}
}

// wrong returns nodes that are not valid, each for one reason.
func wrong() []api.Node {
	change := func(f func(*api.Node)) api.Node {
		n := small()
		f(&n)
		return n
	}
	var l []api.Node
	for _, kind := range noKinds {
		l = append(l, change(func(n *api.Node) { n.Kind = kind }))
	}
	for _, kid := range []int{0, -1, 1, 65536 + 1024, math.MinInt, math.MaxInt} {
		l = append(l, change(func(n *api.Node) { n.Kids[1] = kid }))
	}
	return append(l,
		api.Node{},
		change(func(n *api.Node) { n.Word = 3 }),
		change(func(n *api.Node) { n.Word = math.MaxUint64 }),
		change(func(n *api.Node) { n.Prefix = strings.Repeat("x", 13) }),
		change(func(n *api.Node) { n.Keys = []byte("a") }),
		change(func(n *api.Node) { n.Kids = nil }),
		change(func(n *api.Node) { n.Keys = []byte("ca") }),
		change(func(n *api.Node) { n.Keys = []byte("aa") }),
		filled(api.C4, 5, 1), filled(api.C16, 17, 1), filled(api.C48, 49, 1))
}

// P7.2: which nodes are valid.
func TestRight(t *testing.T) {
	for i, n := range wrong() {
		if node.Right(n) {
			t.Error(i, n)
		}
	}
	for _, kind := range kinds {
		for _, w := range []uint64{0, 1, 2, 4, math.MaxUint64 - 1, math.MaxUint64 - 2} {
			n := filled(kind, node.High(kind), 1)
			n.Word, n.Prefix = w, strings.Repeat("\x00", 12)
			if !node.Right(n) || !node.Right(api.Node{Kind: kind, Word: w}) {
				t.Error(kind, w)
			}
		}
	}
}

// P7.2: which leaves are valid.
func TestRightLeaf(t *testing.T) {
	for _, l := range rightLeaves() {
		if !node.RightLeaf(l) {
			t.Error(l)
		}
	}
	for _, l := range wrongLeaves() {
		if node.RightLeaf(l) || node.EncodeLeaf(l) != nil {
			t.Error(l)
		}
	}
}

func rightLeaves() []api.Leaf {
	return []api.Leaf{
		{Key: "a\x00"}, {Key: "a\x00", Value: 1}, {Key: strings.Repeat("\xff", 12) + "\x00", Value: api.MaxValue},
		{Key: "abcdefg\x00", Value: 7}, {Key: "abcdefgh\x00", Value: 1 << 32},
	}
}

func wrongLeaves() []api.Leaf {
	return []api.Leaf{
		{}, {Key: "a"}, {Key: "\x00"}, {Key: "a\x00\x00"}, {Key: strings.Repeat("a", 13) + "\x00"},
		{Key: "a\x00", Value: -1}, {Key: "a\x00", Value: api.MaxValue + 1}, {Key: "a\x00", Value: math.MinInt},
	}
}

// P7.3: the words of each kind.
func TestEncode(t *testing.T) {
	for _, n := range wrong() {
		if w := node.Encode(n); w != nil {
			t.Error(n, w)
		}
	}
	n := api.Node{Word: 9, Prefix: "abcdefghi", Keys: []byte{0, 9, 255}, Kids: []int{65536, 65537, 65538}}
	want := func(kind int, rest map[int]uint64) []uint64 {
		w := make([]uint64, arena.Size(kind))
		w[0], w[1], w[2], w[3] = 9, uint64(kind)+9<<8+3<<16, 0x6867666564636261, 0x69
		for i, v := range rest {
			w[i] = v
		}
		return w
	}
	for kind, w := range map[int][]uint64{
		api.C4:  want(api.C4, map[int]uint64{4: 0xff0900, 5: 65536, 6: 65537, 7: 65538}),
		api.C16: want(api.C16, map[int]uint64{4: 0xff0900, 6: 65536, 7: 65537, 8: 65538}),
		api.C48: want(api.C48, map[int]uint64{
			4: 1, 5: 2 << 8, 35: 3 << 56, 36: 65536, 37: 65537, 38: 65538,
		}),
		api.C256: want(api.C256, map[int]uint64{4: 65536, 13: 65537, 259: 65538}),
	} {
		n.Kind = kind
		if got := node.Encode(n); !slices.Equal(got, w) {
			t.Error(kind, got)
		}
	}
}

// P7.3: all keys of a C16 do not fit into one word.
func TestEncodeSixteenKeys(t *testing.T) {
	w := node.Encode(filled(api.C16, 16, 1))
	if w[4] != 0x0706050403020100 || w[5] != 0x0f0e0d0c0b0a0908 || w[21] != uint64(word.Ref(15, 3, false)) || w[22] != 0 {
		t.Error(w)
	}
}

// P7.4, P7.9: Decode reads what Encode wrote.
func TestDecode(t *testing.T) {
	for _, kind := range kinds {
		for _, n := range []api.Node{filled(kind, 0, 1), filled(kind, 1, 1), filled(kind, node.High(kind), 1), filled(kind, 4, 63)} {
			if m, ok := node.Decode(node.Encode(n)); !ok || !same(n, m) {
				t.Error(n, m, ok)
			}
		}
	}
}

// P7.4: whatever is decoded is encoded to the same words.
func TestDecodeOther(t *testing.T) {
	for _, w := range [][]uint64{nil, {0}, {0, 1}, make([]uint64, 12), make([]uint64, 300)} {
		if n, ok := node.Decode(w); ok || !isZero(n) {
			t.Error(w, n)
		}
	}
	r := rand.New(rand.NewSource(7))
	odd := []uint64{0, 1, 2, 3, 255, 256, 65536, 1 << 48, math.MaxUint64, 1 << 63}
	for _, kind := range kinds {
		for _, children := range []int{0, 2, node.High(kind)} {
			right := node.Encode(filled(kind, children, 1))
			for _, w := range [][]uint64{right[:len(right)-1], append(slices.Clone(right), 0)} {
				if n, ok := node.Decode(w); ok || !isZero(n) {
					t.Error("length", kind, len(w))
				}
			}
			for range 3000 {
				w := slices.Clone(right)
				if at := r.Intn(len(w)); r.Intn(2) == 0 {
					w[at] = odd[r.Intn(len(odd))]
				} else {
					w[at] ^= 1 << r.Intn(64)
				}
				n, ok := node.Decode(w)
				if ok && !slices.Equal(node.Encode(n), w) || !ok && !isZero(n) {
					t.Fatal(w, n, ok)
				}
			}
		}
	}
}

// P7.4: words that almost are those of a node.
func TestDecodeWrongWords(t *testing.T) {
	change := func(n api.Node, at int, v uint64) []uint64 {
		w := node.Encode(n)
		w[at] = v
		return w
	}
	for i, w := range [][]uint64{
		change(small(), 0, 3),                     // locked and dead
		change(small(), 1, 131328),                // a kind that is none
		change(small(), 1, 131329+1<<8),           // Decode of "x\x00" is right, see below
		change(small(), 1, 131329+12<<8),          // a prefix that is too long
		change(small(), 1, 131329-1<<8),           // a prefix that is too short
		change(small(), 1, 131329+1<<16),          // more children than refs
		change(small(), 1, 131329-1<<16),          // fewer children than refs
		change(small(), 1, 131329+1<<63),          // many children
		change(small(), 4, 25441+1<<56),           // a key too many
		change(small(), 4, 0x6161),                // a key twice
		change(small(), 6, 0),                     // no ref
		change(small(), 11, 1),                    // a word that is not used
		change(filled(api.C48, 3, 1), 4, 0x10203), // not in the order of the keys
		change(filled(api.C48, 3, 1), 80, 1),      // a child without key
		change(filled(api.C256, 3, 1), 9, 5),      // no ref
		change(filled(api.C256, 3, 1), 9, 65536),  // a child that is not counted
	} {
		if n, ok := node.Decode(w); i != 2 && (ok || !isZero(n)) {
			t.Error(i, n)
		}
	}
	if n, ok := node.Decode(change(small(), 1, 131329+1<<8)); !ok || n.Prefix != "x\x00" {
		t.Errorf("%q %v", n.Prefix, ok)
	}
}

// P7.5: the words of leaves.
func TestLeaves(t *testing.T) {
	if w := node.EncodeLeaf(api.Leaf{Key: "abcdefghi\x00", Value: 5}); !slices.Equal(w, []uint64{0, 10 << 8, 0x6867666564636261, 0x69, 5, 0, 0, 0}) {
		t.Error(w)
	}
	for _, l := range rightLeaves() {
		w := node.EncodeLeaf(l)
		if got, ok := node.DecodeLeaf(w); !ok || got != l {
			t.Error(l, got, ok)
		}
		for at := range w {
			for bit := range 64 {
				v := slices.Clone(w)
				v[at] ^= 1 << bit
				got, ok := node.DecodeLeaf(v)
				if ok && !slices.Equal(node.EncodeLeaf(got), v) || !ok && got != (api.Leaf{}) {
					t.Error(v, got, ok)
				}
			}
		}
		for _, v := range [][]uint64{w[:7], append(slices.Clone(w), 0)} {
			if got, ok := node.DecodeLeaf(v); ok || got != (api.Leaf{}) {
				t.Error(v, got)
			}
		}
	}
	right := node.EncodeLeaf(api.Leaf{Key: "ab\x00", Value: 5})
	for at, v := range map[int]uint64{0: 1, 1: 3<<8 + 1, 2: 0x616161, 3: 1, 4: api.MaxValue + 1, 5: 1, 7: 1} {
		w := slices.Clone(right)
		w[at] = v
		if got, ok := node.DecodeLeaf(w); ok || got != (api.Leaf{}) {
			t.Error(w, got)
		}
	}
	if got, ok := node.DecodeLeaf(nil); ok || got != (api.Leaf{}) {
		t.Error(got)
	}
}

// P7.6: Find on any node.
func TestFind(t *testing.T) {
	for _, c := range []struct {
		n    api.Node
		b    byte
		kid  int
		isIn bool
	}{
		{small(), 'a', 65536, true},
		{small(), 'c', 65537, true},
		{small(), 'b', 0, false},
		{api.Node{}, 0, 0, false},
		{api.Node{Keys: []byte("zaz"), Kids: []int{0, -5, 7}}, 'z', 0, true},
		{api.Node{Keys: []byte("zaz"), Kids: []int{0, -5, 7}}, 'a', -5, true},
		{api.Node{Keys: []byte("za"), Kids: []int{1}}, 'a', 0, false},
		{api.Node{Kids: []int{1}}, 0, 0, false},
	} {
		if kid, ok := node.Find(c.n, c.b); kid != c.kid || ok != c.isIn {
			t.Error(c, kid, ok)
		}
	}
}

// P7.7: With adds or replaces a child, up to High.
func TestWith(t *testing.T) {
	for _, n := range wrong() {
		if m, ok := node.With(n, 'b', 65538); ok || !isZero(m) {
			t.Error(n, m)
		}
	}
	for _, kid := range []int{0, -1, 5, math.MinInt, math.MaxInt} {
		if m, ok := node.With(small(), 'b', kid); ok || !isZero(m) {
			t.Error(kid, m)
		}
	}
	for _, kind := range kinds {
		n := filled(kind, node.High(kind), 1)
		m, ok := node.With(n, 2, 65599)
		if !ok || m.Kids[2] != 65599 || len(m.Kids) != node.High(kind) || n.Kids[2] == 65599 {
			t.Error("replaced", kind, ok)
		}
		if m.Kind != kind || m.Word != n.Word || m.Prefix != n.Prefix {
			t.Error("changed", kind, m)
		}
		if kind != api.C256 {
			if m, ok := node.With(n, 255, 65599); ok || !isZero(m) {
				t.Error("full", kind, m)
			}
		}
	}
}

// P7.7: Without removes a child that there is, even the last one.
func TestWithout(t *testing.T) {
	for _, n := range wrong() {
		if m, ok := node.Without(n, 'a'); ok || !isZero(m) {
			t.Error(n, m)
		}
	}
	if m, ok := node.Without(small(), 'b'); ok || !isZero(m) {
		t.Error(m)
	}
	m, ok := node.Without(filled(api.C48, 1, 1), 0)
	if !ok || len(m.Keys) != 0 || len(m.Kids) != 0 || m.Kind != api.C48 || m.Word != 12 || m.Prefix != "pre" {
		t.Error(m, ok)
	}
}

// P7.8: Turn keeps the children, if they fit.
func TestTurn(t *testing.T) {
	for _, n := range wrong() {
		if m, ok := node.Turn(n, api.C256); ok || !isZero(m) {
			t.Error(n, m)
		}
	}
	for _, kind := range noKinds {
		for _, n := range []api.Node{small(), {Kind: api.C4}} {
			if m, ok := node.Turn(n, kind); ok || !isZero(m) {
				t.Error(kind, m)
			}
		}
	}
	for _, from := range kinds {
		for _, to := range kinds {
			n := filled(from, min(node.High(from), node.High(to)), 1)
			want := copied(n)
			want.Kind, want.Word = to, 0
			if m, ok := node.Turn(n, to); !ok || !same(m, want) {
				t.Error(from, to, m)
			}
			if from > to {
				if m, ok := node.Turn(filled(from, node.High(to)+1, 1), to); ok || !isZero(m) {
					t.Error(from, to, m)
				}
			}
		}
	}
}

// P7.9: With and Without are inverses, and Turn and back changes the Word alone.
func TestInverses(t *testing.T) {
	for _, kind := range kinds {
		n := filled(kind, node.High(kind)-1, 1)
		more, ok := node.With(n, 255, 65599)
		less, ok2 := node.Without(more, 255)
		if !ok || !ok2 || !same(n, less) {
			t.Error(kind, ok, ok2)
		}
		for _, b := range n.Keys[:3] {
			kid, _ := node.Find(n, b)
			less, ok = node.Without(n, b)
			more, ok2 = node.With(less, b, kid)
			if !ok || !ok2 || !same(n, more) {
				t.Error(kind, b, ok, ok2)
			}
		}
		m, ok := node.Turn(filled(kind, 4, 9), api.C256)
		back, ok2 := node.Turn(m, kind)
		want := filled(kind, 4, 9)
		want.Word = 0
		if !ok || !ok2 || !same(back, want) {
			t.Error(kind, back)
		}
	}
}

// R2: no function changes a node, and no result shares memory with it.
func TestNoSharedMemory(t *testing.T) {
	keys, kids := []byte("ac..")[:2], []int{65536, 65537, 1, 2}[:2]
	n := api.Node{Kind: api.C4, Keys: keys, Kids: kids}
	with, _ := node.With(n, 'b', 65538)
	again, _ := node.With(n, 'a', 65538)
	without, _ := node.Without(n, 'a')
	turned, _ := node.Turn(n, api.C16)
	for _, m := range []api.Node{with, again, without, turned} {
		m.Keys, m.Kids = m.Keys[:cap(m.Keys)], m.Kids[:cap(m.Kids)]
		for i := range m.Keys {
			m.Keys[i] = 'z'
		}
		for i := range m.Kids {
			m.Kids[i] = 9
		}
	}
	if string(keys[:4]) != "ac.." || !reflect.DeepEqual(kids[:4], []int{65536, 65537, 1, 2}) {
		t.Errorf("%q %v", keys[:4], kids[:4])
	}
}
