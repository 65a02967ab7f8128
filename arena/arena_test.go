package arena_test

import (
	"math"
	"slices"
	"testing"

	"tendril/api"
	"tendril/arena"
	"tendril/word"
)

var sizes = [api.Classes]int{8, 12, 24, 88, 264}

func create(t *testing.T, slots ...int) *arena.Arena {
	t.Helper()
	var l [api.Classes]int
	copy(l[:], slots)
	a, e := arena.New(l)
	if a == nil || e != api.OK {
		t.Fatal(slots, e)
	}
	return a
}

func alloc(t *testing.T, a *arena.Arena, class int, words ...uint64) int {
	t.Helper()
	ref, e := a.Alloc(class, words)
	if e != api.OK {
		t.Fatal("Alloc", class, e)
	}
	return ref
}

// padded returns words followed by words 0 up to n.
func padded(n int, words ...uint64) []uint64 {
	return append(slices.Clone(words), make([]uint64, n-len(words))...)
}

func holds(t *testing.T, a *arena.Arena, ref int, want []uint64) {
	t.Helper()
	if w, e := a.Load(ref); e != api.OK || !slices.Equal(w, want) {
		t.Error("Load", ref, w, e)
	}
}

func TestExampleRuns(t *testing.T) {
	a := create(t, 2, 1)
	if ref, e := a.Alloc(api.CLeaf, []uint64{5}); ref != 281474976776192 || e != api.OK {
		t.Error(ref, e)
	}
	if ref, e := a.Alloc(api.C4, nil); ref != 65538 || e != api.OK {
		t.Error(ref, e)
	}
	if ref, e := a.Alloc(api.C4, nil); ref != 0 || e != api.ErrFull {
		t.Error(ref, e)
	}
	holds(t, a, 281474976776192, padded(8, 5))
	if e := a.Free(281474976776192); e != api.OK {
		t.Error(e)
	}
	if w, e := a.Load(281474976776192); w != nil || e != api.ErrGen {
		t.Error(w, e)
	}
	if ref, e := a.Alloc(api.CLeaf, nil); ref != 281474976841728 || e != api.OK {
		t.Error(ref, e)
	}
}

func TestSize(t *testing.T) {
	for class, want := range sizes {
		if n := arena.Size(class); n != want {
			t.Error(class, n)
		}
	}
	for _, class := range []int{-1, api.Classes, math.MinInt, math.MaxInt} {
		if n := arena.Size(class); n != 0 {
			t.Error(class, n)
		}
	}
}

// P4.1: which arenas there are, and how many of their slots are free.
func TestNew(t *testing.T) {
	for _, l := range [][api.Classes]int{
		{-1, 1, 1, 1, 1}, {0, 0, 0, 0, -1}, {1025}, {0, 0, 0, 0, 1025}, {1024, 1}, {512, 512, 0, 0, 1},
		{math.MaxInt, math.MaxInt, 2}, {math.MinInt}, {1024, 1024, 1024, 1024, 1024},
	} {
		if a, e := arena.New(l); a != nil || e != api.ErrArg {
			t.Error(l, e)
		}
	}
	a := create(t, 3, 0, 2, 1, 4)
	if a.Live() != 0 {
		t.Error(a.Live())
	}
	for class, want := range [api.Classes]int{3, 0, 2, 1, 4} {
		if a.Room(class) != want {
			t.Error(class, a.Room(class))
		}
	}
	for _, class := range []int{-1, api.Classes, math.MinInt, math.MaxInt} {
		if a.Room(class) != 0 {
			t.Error(class, a.Room(class))
		}
	}
	most := create(t, 0, 0, 0, 0, 1024)
	for n := range 1024 {
		if ref := alloc(t, most, api.C256); ref != word.Ref(n, 1, false) {
			t.Fatal(n, ref)
		}
	}
	if most.Live() != 1024 || most.Room(api.C256) != 0 {
		t.Error(most.Live(), most.Room(api.C256))
	}
	if create(t).Live() != 0 {
		t.Error("an arena of nothing")
	}
}

// P4.2: slots are numbered class by class, and the smallest free one is taken.
func TestAlloc(t *testing.T) {
	a := create(t, 2, 2, 1, 1, 1)
	first := 0
	for class, n := range [api.Classes]int{2, 2, 1, 1, 1} {
		for i := range n {
			full := padded(sizes[class], 7, uint64(class))
			ref := alloc(t, a, class, full...)
			if ref != word.Ref(first+i, 1, class == api.CLeaf) {
				t.Error(class, i, ref)
			}
			holds(t, a, ref, full)
		}
		first += n
		if ref, e := a.Alloc(class, nil); ref != 0 || e != api.ErrFull {
			t.Error(class, ref, e)
		}
		// ErrArg comes before ErrFull.
		if ref, e := a.Alloc(class, make([]uint64, sizes[class]+1)); ref != 0 || e != api.ErrArg {
			t.Error(class, ref, e)
		}
	}
	for _, class := range []int{-1, api.Classes, math.MinInt, math.MaxInt} {
		if ref, e := a.Alloc(class, nil); ref != 0 || e != api.ErrArg {
			t.Error(class, ref, e)
		}
	}
	if a.Live() != 7 {
		t.Error(a.Live())
	}
}

// P4.2: a refused Alloc takes no slot.
func TestRefusedAllocTakesNothing(t *testing.T) {
	a := create(t, 1)
	a.Alloc(api.CLeaf, make([]uint64, 9))
	if a.Room(api.CLeaf) != 1 || a.Live() != 0 {
		t.Error(a.Room(api.CLeaf), a.Live())
	}
}

// every calls each function that takes a ref, and compares its error.
func every(t *testing.T, a *arena.Arena, ref int, want api.Errno) {
	t.Helper()
	long := make([]uint64, 265)
	if e := a.Free(ref); e != want {
		t.Error("Free", ref, e)
	}
	if w, e := a.Load(ref); w != nil || e != want {
		t.Error("Load", ref, w, e)
	}
	// The errors of the ref come before that of the words.
	for _, words := range [][]uint64{nil, long} {
		if e := a.Store(ref, words); e != want {
			t.Error("Store", ref, e)
		}
		if ok, e := a.Swap(ref, 0, words); ok || e != want {
			t.Error("Swap", ref, ok, e)
		}
	}
}

// P4.3: the errors of refs, in their order.
func TestRefErrors(t *testing.T) {
	a := create(t, 1, 1)
	leaf, four := alloc(t, a, api.CLeaf, 1), alloc(t, a, api.C4, 2)
	for _, ref := range []int{
		0, -1, math.MinInt, math.MaxInt, word.Ref(2, 1, false), word.Ref(2, 1, true), word.Ref(1023, 1, false),
		word.Ref(0, 1, false), word.Ref(1, 1, true), word.Ref(0, 9, false), word.Ref(1, 9, true),
	} {
		every(t, a, ref, api.ErrArg)
	}
	every(t, a, word.Ref(0, 2, true), api.ErrGen)
	every(t, a, word.Ref(1, api.MaxGen, false), api.ErrGen)
	if e := a.Free(four); e != api.OK {
		t.Error(e)
	}
	every(t, a, four, api.ErrGen)
	every(t, a, word.Ref(1, 2, false), api.ErrFree)
	every(t, a, word.Ref(1, 3, false), api.ErrGen)
	every(t, a, word.Ref(1, 2, true), api.ErrArg)
	holds(t, a, leaf, padded(8, 1))
	if a.Live() != 1 {
		t.Error(a.Live())
	}
}

// P4.3: Free begins the next generation, and the smallest number comes first.
func TestFree(t *testing.T) {
	a := create(t, 3)
	var refs []int
	for range 3 {
		refs = append(refs, alloc(t, a, api.CLeaf, 9))
	}
	for _, i := range []int{2, 0} {
		if e := a.Free(refs[i]); e != api.OK {
			t.Error(i, e)
		}
	}
	if a.Live() != 1 || a.Room(api.CLeaf) != 2 {
		t.Error(a.Live(), a.Room(api.CLeaf))
	}
	if ref := alloc(t, a, api.CLeaf); ref != word.Ref(0, 2, true) {
		t.Error(ref)
	}
	if ref := alloc(t, a, api.CLeaf, 4); ref != word.Ref(2, 2, true) {
		t.Error(ref)
	}
	// What is left of an earlier generation is not seen any more.
	holds(t, a, word.Ref(0, 2, true), padded(8))
	holds(t, a, word.Ref(2, 2, true), padded(8, 4))
}

// P4.4: Store replaces all words, and refuses too many of them.
func TestStore(t *testing.T) {
	a := create(t, 1, 1)
	ref := alloc(t, a, api.C4, padded(12, 1, 2, 3)...)
	if e := a.Store(ref, make([]uint64, 13)); e != api.ErrArg {
		t.Error(e)
	}
	holds(t, a, ref, padded(12, 1, 2, 3))
	if e := a.Store(ref, []uint64{8}); e != api.OK {
		t.Error(e)
	}
	holds(t, a, ref, padded(12, 8))
	if e := a.Store(ref, nil); e != api.OK {
		t.Error(e)
	}
	holds(t, a, ref, padded(12))
	full := []uint64{1, 2, 3, 4, 5, 6, 7, 8, 9, 10, 11, 12}
	if e := a.Store(ref, full); e != api.OK {
		t.Error(e)
	}
	holds(t, a, ref, full)
}

// P4.5: Swap changes a slot only if its first word is was.
func TestSwap(t *testing.T) {
	a := create(t, 1, 1)
	ref := alloc(t, a, api.CLeaf, 5, 6)
	if ok, e := a.Swap(ref, 4, []uint64{1}); ok || e != api.OK {
		t.Error(ok, e)
	}
	for _, was := range []uint64{4, 5} {
		if ok, e := a.Swap(ref, was, make([]uint64, 9)); ok || e != api.ErrArg {
			t.Error(was, ok, e)
		}
	}
	holds(t, a, ref, padded(8, 5, 6))
	if ok, e := a.Swap(ref, 5, []uint64{7, 1, 2}); !ok || e != api.OK {
		t.Error(ok, e)
	}
	holds(t, a, ref, padded(8, 7, 1, 2))
	if ok, e := a.Swap(ref, 7, nil); !ok || e != api.OK {
		t.Error(ok, e)
	}
	holds(t, a, ref, padded(8))
}

// P4.6: a ref is valid from its Alloc to its Free, and never again.
func TestRefsAreNotReused(t *testing.T) {
	a := create(t, 1)
	seen := map[int]struct{}{}
	for range 300 {
		ref := alloc(t, a, api.CLeaf)
		if _, there := seen[ref]; there {
			t.Fatal("again", ref)
		}
		for old := range seen {
			if _, e := a.Load(old); e != api.ErrGen {
				t.Fatal(old, e)
			}
		}
		seen[ref] = struct{}{}
		if e := a.Free(ref); e != api.OK {
			t.Fatal(e)
		}
	}
}

// R2: arguments and results share no memory with the slots.
func TestNoSharedMemory(t *testing.T) {
	a := create(t, 1)
	words := []uint64{1, 2}
	ref := alloc(t, a, api.CLeaf, words...)
	got, _ := a.Load(ref)
	got[0], words[1] = 9, 9
	holds(t, a, ref, padded(8, 1, 2))
	words = append(make([]uint64, 0, 8), 3, 4)
	a.Store(ref, words)
	words[0] = 9
	holds(t, a, ref, padded(8, 3, 4))
}
