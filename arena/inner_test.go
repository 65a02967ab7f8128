package arena

import (
	"testing"

	"tendril/api"
	"tendril/word"
)

func poisoned(s slot) bool {
	for _, w := range s.words {
		if w != api.Poison {
			return false
		}
	}
	return true
}

// P4.1, P4.3: what a free slot contains cannot be loaded by a ref.
func TestFreeSlotsArePoisoned(t *testing.T) {
	a, _ := New([api.Classes]int{1, 1, 1, 1, 1})
	for class := range api.Classes {
		if s := a.slots[class]; len(s.words) != Size(class) || !poisoned(s) {
			t.Error("new", class)
		}
		ref, _ := a.Alloc(class, nil)
		if poisoned(a.slots[class]) {
			t.Error("live", class)
		}
		a.Free(ref)
		if !poisoned(a.slots[class]) {
			t.Error("freed", class)
		}
	}
}

// P4.3: after its last generation a slot is never free again.
func TestLastGeneration(t *testing.T) {
	a, _ := New([api.Classes]int{1})
	a.slots[0].gen = api.MaxGen - 1
	for gen := api.MaxGen - 1; gen <= api.MaxGen; gen++ {
		ref, e := a.Alloc(api.CLeaf, nil)
		if ref != word.Ref(0, gen, true) || e != api.OK {
			t.Fatal(gen, ref, e)
		}
		if e := a.Free(ref); e != api.OK {
			t.Fatal(gen, e)
		}
		if _, e := a.Load(ref); e != api.ErrGen {
			t.Error(gen, e)
		}
	}
	if a.Room(api.CLeaf) != 0 || a.Live() != 1 || !poisoned(a.slots[0]) {
		t.Error(a.Room(api.CLeaf), a.Live())
	}
	if ref, e := a.Alloc(api.CLeaf, nil); ref != 0 || e != api.ErrFull {
		t.Error(ref, e)
	}
}
