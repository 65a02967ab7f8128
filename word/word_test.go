package word_test

import (
	"math"
	"testing"

	"tendril/api"
	"tendril/word"
)

func TestExampleRuns(t *testing.T) {
	if r := word.Ref(3, 1, true); r != 281474976776195 {
		t.Error("Ref", r)
	}
	if s, g, l, ok := word.Parts(281474976776195); s != 3 || g != 1 || !l || !ok {
		t.Error("Parts", s, g, l, ok)
	}
	if _, _, _, ok := word.Parts(0); ok {
		t.Error("Parts(0)")
	}
	if w, ok := word.Lock(8); w != 9 || !ok {
		t.Error("Lock(8)", w, ok)
	}
	if w := word.Unlock(9); w != 12 {
		t.Error("Unlock(9)", w)
	}
	if w := word.Kill(9); w != 14 {
		t.Error("Kill(9)", w)
	}
	if w, ok := word.Lock(14); w != 0 || ok {
		t.Error("Lock(14)", w, ok)
	}
}

// P1.1: where slot, generation and leaf lie, and what has no ref.
func TestRef(t *testing.T) {
	for _, c := range []struct {
		slot, gen int
		leaf      bool
		want      int
	}{
		{0, 1, false, 1 << 16},
		{1023, 1, false, 1<<16 + 1023},
		{5, 65536, false, 1<<32 + 5},
		{0, api.MaxGen, false, 1 << 46},
		{0, api.MaxGen, true, 1<<48 + 1<<46},
		{-1, 1, false, 0},
		{1024, 1, true, 0},
		{0, 0, false, 0},
		{0, -1, true, 0},
		{0, api.MaxGen + 1, false, 0},
		{math.MinInt, math.MaxInt, true, 0},
		{math.MaxInt, math.MinInt, false, 0},
	} {
		if r := word.Ref(c.slot, c.gen, c.leaf); r != c.want {
			t.Error(c, r)
		}
	}
}

// P1.2, P1.4: Parts returns what Ref packed, and nothing for anything else.
func TestParts(t *testing.T) {
	for _, slot := range []int{0, 1, 511, 1023} {
		for _, gen := range []int{1, 2, 65535, 65536, api.MaxGen} {
			for _, leaf := range []bool{false, true} {
				s, g, l, ok := word.Parts(word.Ref(slot, gen, leaf))
				if s != slot || g != gen || l != leaf || !ok {
					t.Error(slot, gen, leaf, s, g, l, ok)
				}
			}
		}
	}
	for _, r := range []int{
		0, 1, -1, 65535, 1<<16 + 1024, 1<<16 + 65535, (api.MaxGen + 1) << 16,
		1 << 48, 1<<48 + 7, 1<<49 + 1<<16, 1<<62 + 1<<16, math.MinInt, math.MinInt + 1<<16, math.MaxInt,
	} {
		if s, g, l, ok := word.Parts(r); s != 0 || g != 0 || l || ok {
			t.Error(r, s, g, l, ok)
		}
	}
}

// P1.3: the bits of a version word.
func TestVersionWords(t *testing.T) {
	for v := uint64(0); v < 64; v++ {
		free, dead := v&3 == 0, v&2 != 0
		if word.Free(v) != free || word.Dead(v) != dead {
			t.Error("Free, Dead", v)
		}
		w, ok := word.Lock(v)
		if ok != free || (free && w != v+1) || (!free && w != 0) {
			t.Error("Lock", v, w, ok)
		}
		if w := word.Unlock(v); w != v/4*4+4 {
			t.Error("Unlock", v, w)
		}
		if w := word.Kill(v); w != v/4*4+6 {
			t.Error("Kill", v, w)
		}
	}
	most := uint64(math.MaxUint64)
	if word.Unlock(most) != 0 || word.Kill(most) != 2 || word.Unlock(most-3) != 0 {
		t.Error("versions do not wrap around")
	}
}

// P1.4: a word that was locked and unlocked differs, and a dead one stays unlocked.
func TestLockedWordsDiffer(t *testing.T) {
	for _, v := range []uint64{0, 4, 8, 1 << 40, math.MaxUint64 - 3} {
		w, ok := word.Lock(v)
		if !ok || w == v || word.Free(w) || word.Unlock(w) == v || !word.Free(word.Unlock(w)) {
			t.Error(v, w, ok)
		}
		if w, ok := word.Lock(word.Kill(w)); ok || w != 0 {
			t.Error("a dead word was locked", v)
		}
	}
}
