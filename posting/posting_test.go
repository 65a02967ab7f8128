package posting_test

import (
	"math"
	"math/rand"
	"reflect"
	"slices"
	"testing"

	"tendril/api"
	"tendril/block"
	"tendril/posting"
)

// count returns the ids from first up to last.
func count(first, last int) []int {
	var l []int
	for id := first; id <= last; id++ {
		l = append(l, id)
	}
	return l
}

func of(t *testing.T, ids ...int) posting.List {
	t.Helper()
	l, e := posting.Of(ids)
	if e != api.OK {
		t.Fatal(ids, e)
	}
	return l
}

// has compares the blocks of a list, and what else it says of itself.
func has(t *testing.T, l posting.List, want ...[]int) {
	t.Helper()
	if got := l.Blocks(); len(got)+len(want) > 0 && !reflect.DeepEqual(got, want) {
		t.Error(got, "instead of", want)
	}
	all := slices.Concat(want...)
	if got := l.Ids(); !slices.Equal(got, all) || l.Len() != len(all) {
		t.Error(got, l.Len(), "instead of", all)
	}
}

func add(t *testing.T, l posting.List, id int) posting.List {
	t.Helper()
	l, ok := l.Add(id)
	if !ok {
		t.Error("Add", id)
	}
	return l
}

func remove(t *testing.T, l posting.List, id int) posting.List {
	t.Helper()
	l, ok := l.Remove(id)
	if !ok {
		t.Error("Remove", id)
	}
	return l
}

func TestExampleRuns(t *testing.T) {
	l := add(t, of(t, count(0, 15)...), 16)
	has(t, l, count(0, 8), count(9, 16))
	has(t, remove(t, l, 0), count(1, 16))
}

// P20.1: lists of ids.
func TestOf(t *testing.T) {
	has(t, posting.List{})
	has(t, of(t))
	has(t, of(t, 7), []int{7})
	has(t, of(t, count(0, 15)...), count(0, 15))
	has(t, of(t, count(3, 35)...), count(3, 18), count(19, 34), []int{35})
	has(t, of(t, 0, api.MaxDoc), []int{0, api.MaxDoc})
	for _, ids := range [][]int{
		{-1}, {api.MaxDoc + 1}, {1, 1}, {2, 1}, {0, api.MaxDoc + 1}, {math.MinInt, 0}, {math.MaxInt}, append(count(0, 40), 40),
	} {
		if l, e := posting.Of(ids); e != api.ErrOrder || l.Len() != 0 {
			t.Error(ids, e)
		}
	}
}

// P20.2: Has and Seek, in lists of several blocks.
func TestHasAndSeek(t *testing.T) {
	var ids []int
	for i := range 50 {
		ids = append(ids, 10+3*i)
	}
	l := of(t, ids...)
	for from := -5; from < 200; from++ {
		i, there := slices.BinarySearch(ids, from)
		if l.Has(from) != there {
			t.Error("Has", from)
		}
		id, ok := l.Seek(from)
		if ok != (i < len(ids)) || ok && id != ids[i] || !ok && id != 0 {
			t.Error("Seek", from, id, ok)
		}
	}
	for _, x := range []struct {
		from, id int
		ok       bool
	}{{math.MinInt, 10, true}, {math.MaxInt, 0, false}, {api.MaxDoc, 0, false}} {
		if id, ok := l.Seek(x.from); id != x.id || ok != x.ok || l.Has(x.from) {
			t.Error(x, id, ok)
		}
	}
	var none posting.List
	if id, ok := none.Seek(0); id != 0 || ok || none.Has(0) {
		t.Error(id, ok)
	}
}

// P20.3: to which block an id is added, and when a block becomes two.
func TestAdd(t *testing.T) {
	var l posting.List
	l = add(t, l, 50)
	has(t, l, []int{50})
	has(t, add(t, l, 0), []int{0, 50})
	has(t, add(t, l, api.MaxDoc), []int{50, api.MaxDoc})
	l = of(t, append(count(10, 25), count(100, 104)...)...)
	has(t, add(t, l, 0), append([]int{0}, count(10, 17)...), count(18, 25), count(100, 104))
	has(t, add(t, l, 50), count(10, 18), append(count(19, 25), 50), count(100, 104))
	has(t, add(t, l, 105), count(10, 25), count(100, 105))
	l = of(t, append(count(10, 25), count(100, 115)...)...)
	has(t, add(t, l, 99), count(10, 18), append(count(19, 25), 99), count(100, 115))
	for _, id := range []int{10, 25, 100, -1, api.MaxDoc + 1, math.MinInt, math.MaxInt} {
		same, ok := l.Add(id)
		if ok {
			t.Error(id)
		}
		has(t, same, count(10, 25), count(100, 115))
	}
}

// P20.4: when blocks become one.
func TestRemove(t *testing.T) {
	l := of(t, append(count(0, 15), count(20, 35)...)...)
	l = remove(t, add(t, l, 16), 16) // 0 .. 8; 9 .. 15; 20 .. 35
	has(t, l, count(0, 8), count(9, 15), count(20, 35))
	// The first two have sixteen ids together, and stay apart until the first
	// one loses an id.
	has(t, remove(t, l, 0), count(1, 15), count(20, 35))
	has(t, remove(t, l, 9), count(0, 8), count(10, 15), count(20, 35))
}

// P20.4: the neighbours of a block, one by one.
func TestRemoveNeighbours(t *testing.T) {
	// 0 .. 8; 9 .. 17; 18 .. 26; 27 .. 34
	l := of(t, count(0, 15)...)
	for id := 16; id <= 34; id++ {
		l = add(t, l, id)
	}
	has(t, l, count(0, 8), count(9, 17), count(18, 26), count(27, 34))
	// Seventeen together are too many.
	m := remove(t, l, 18)
	has(t, m, count(0, 8), count(9, 17), count(19, 34))
	m = remove(t, l, 9)
	has(t, m, count(0, 8), count(10, 17), count(18, 26), count(27, 34))
	// The last block looks at the one before it, which has nine.
	m = remove(t, l, 34)
	has(t, m, count(0, 8), count(9, 17), append(count(18, 26), count(27, 33)...))
	// One that is not the last does not look at the one before it.
	m = remove(t, remove(t, l, 9), 10)
	has(t, m, count(0, 8), append(count(11, 17), count(18, 26)...), count(27, 34))
	// The last of two blocks.
	m = add(t, of(t, count(0, 15)...), 16)
	has(t, remove(t, m, 9), append(count(0, 8), count(10, 16)...))
	// The last id of a block.
	m = of(t, append(count(0, 15), 20)...)
	has(t, remove(t, m, 20), count(0, 15))
	m = of(t, 7)
	has(t, remove(t, m, 7))
	for _, id := range []int{8, -1, math.MinInt, math.MaxInt} {
		same, ok := m.Remove(id)
		if ok {
			t.Error(id)
		}
		has(t, same, []int{7})
	}
	if same, ok := (posting.List{}).Remove(0); ok || same.Len() != 0 {
		t.Error("an id of nothing")
	}
}

// model is P20.3 and P20.4, word by word, on plain blocks.
type model [][]int

func (m model) at(id int) int {
	at := 0
	for i, b := range m {
		if b[0] <= id {
			at = i
		}
	}
	return at
}

func (m model) add(id int) model {
	if len(m) == 0 {
		return model{{id}}
	}
	i := m.at(id)
	b := append(slices.Clone(m[i]), id)
	slices.Sort(b)
	if len(b) <= 16 {
		return slices.Concat(m[:i], model{b}, m[i+1:])
	}
	return slices.Concat(m[:i], model{b[:9], b[9:]}, m[i+1:])
}

func (m model) remove(id int) model {
	i := m.at(id)
	b := slices.DeleteFunc(slices.Clone(m[i]), func(x int) bool { return x == id })
	if len(b) == 0 {
		return slices.Concat(m[:i], m[i+1:])
	}
	if i+1 < len(m) && len(b)+len(m[i+1]) <= 16 {
		return slices.Concat(m[:i], model{slices.Concat(b, m[i+1])}, m[i+2:])
	}
	if i > 0 && i+1 == len(m) && len(b)+len(m[i-1]) <= 16 {
		return slices.Concat(m[:i-1], model{slices.Concat(m[i-1], b)})
	}
	return slices.Concat(m[:i], model{b}, m[i+1:])
}

// P20.3 to P20.5: many changes, against the model; earlier lists stay.
func TestAgainstModel(t *testing.T) {
	r := rand.New(rand.NewSource(20))
	var l, kept posting.List
	var m, keptModel model
	for i := range 20000 {
		id := r.Intn(300)
		if i/2000%2 == 1 {
			id = r.Intn(30) * 10
		}
		if l.Has(id) {
			l, m = remove(t, l, id), m.remove(id)
		} else {
			l, m = add(t, l, id), m.add(id)
		}
		if got := l.Blocks(); len(got)+len(m) > 0 && !reflect.DeepEqual(got, [][]int(m)) {
			t.Fatal(i, id, got, m)
		}
		if i%100 == 0 {
			has(t, kept, keptModel...)
			kept, keptModel = l, m
		}
		for _, b := range m {
			if !block.Right(b) {
				t.Fatal(b)
			}
		}
	}
}

// P20.5, R2: neither results nor arguments share memory with a list.
func TestNoSharedMemory(t *testing.T) {
	ids := count(0, 20)
	l := of(t, ids...)
	ids[0] = 99
	l.Ids()[1] = 99
	l.Blocks()[1][0] = 99
	a, b := add(t, l, 30), add(t, l, 40)
	has(t, l, count(0, 15), count(16, 20))
	has(t, a, count(0, 15), append(count(16, 20), 30))
	has(t, b, count(0, 15), append(count(16, 20), 40))
}
