package drop_test

import (
	"math"
	"math/rand"
	"reflect"
	"slices"
	"strings"
	"testing"

	"tendril/api"
	"tendril/drop"
	"tendril/mem"
	"tendril/node"
	"tendril/plant"
	"tendril/put"
	"tendril/shape"
	"tendril/word"
)

var config = api.Config{Slots: [api.Classes]int{300, 100, 30, 10, 3}, Clients: 4, Limbo: 6, Tries: 3}

func planted(t *testing.T, c api.Config, terms ...string) *mem.Mem {
	t.Helper()
	m, e := mem.New(c)
	if e != api.OK || !plant.Tree(m, plant.List(terms...)) {
		t.Fatal(e)
	}
	return m
}

func create(t *testing.T, m *mem.Mem, term string) *drop.Drop {
	t.Helper()
	d, e := drop.New(api.Op{Kind: api.ODrop, Term: term}, m.Root(), 3)
	if d == nil || e != api.OK {
		t.Fatalf("%q %d", term, e)
	}
	return d
}

func answers(t *testing.T, p plant.Program, want api.Answer) {
	t.Helper()
	if a, ok := p.Answer(); !ok || !reflect.DeepEqual(a, want) {
		t.Errorf("%+v %v instead of %+v", a, ok, want)
	}
}

// until performs accesses of a program until it wants one of a kind.
func until(t *testing.T, m *mem.Mem, p plant.Program, kind int) []api.Access {
	t.Helper()
	l, ok := plant.Until(m, 0, p, kind, 99)
	if !ok {
		t.Fatal("no access of the kind", kind)
	}
	return l
}

func reads(t *testing.T, m *mem.Mem, want []api.Entry) {
	t.Helper()
	l, text := plant.Read(m)
	if !slices.Equal(l, want) || text != shape.Text(want) {
		t.Errorf("%v %q instead of %v", l, text, want)
	}
}

// is compares the kinds of accesses.
func is(t *testing.T, l []api.Access, want ...int) {
	t.Helper()
	if !slices.Equal(plant.Kinds(l), want) {
		t.Error(plant.Kinds(l), "instead of", want)
	}
}

// refers compares the refs of accesses.
func refers(t *testing.T, l []api.Access, want ...int) {
	t.Helper()
	for i, a := range l {
		if a.Ref != want[i] {
			t.Error(i, a.Ref, "instead of", want[i])
		}
	}
}

func TestExampleRun(t *testing.T) {
	m := planted(t, config, "a", "ab")
	d := create(t, m, "ab")
	l, took := plant.Finish(m, 0, d, 99)
	is(t, l, api.AEpoch, api.APin, api.ATurn, api.ALoad, api.ALoad, api.ALoad,
		api.ASwap, api.ASwap, api.AStore, api.AStore, api.ARetire, api.ARetire, api.AUnpin)
	if took != 8 {
		t.Error(took)
	}
	answers(t, d, api.Answer{Found: true, Value: 2})
	reads(t, m, plant.List("a"))
}

// P13.1: which operations are drops.
func TestNew(t *testing.T) {
	for _, o := range []api.Op{
		{}, {Kind: api.OGet, Term: "a"}, {Kind: api.OPut, Term: "a"}, {Kind: api.ODrop}, {Kind: api.ODrop, Term: "a\x00"},
		{Kind: api.ODrop, Term: strings.Repeat("a", 13)}, {Kind: api.ODrop, Term: "a", To: "b"}, {Kind: api.ODrop, Term: "a", Value: 1},
	} {
		if d, e := drop.New(o, 65536, 1); d != nil || e != api.ErrArg {
			t.Error(o, e)
		}
	}
	o := api.Op{Kind: api.ODrop, Term: strings.Repeat("a", 12)}
	for _, tries := range []int{0, -1, math.MinInt} {
		if d, e := drop.New(o, 65536, tries); d != nil || e != api.ErrArg {
			t.Error(tries, e)
		}
	}
	for _, tries := range []int{1, math.MaxInt} {
		if d, e := drop.New(o, -1, tries); d == nil || e != api.OK {
			t.Error(tries, e)
		}
	}
}

// P10: Next repeats itself, Answer waits for the end, nothing follows it, and
// the operation takes effect once.
func TestProgram(t *testing.T) {
	m := planted(t, config, "aa", "ab")
	d := create(t, m, "ab")
	took := 0
	for {
		a, ok := d.Next()
		b, _ := d.Next()
		if !reflect.DeepEqual(a, b) {
			t.Error(a, b)
		}
		if !ok {
			break
		}
		if a, ok := d.Answer(); ok || !reflect.DeepEqual(a, api.Answer{}) {
			t.Error(a, ok)
		}
		d.Got(m.Do(0, a))
		if d.Took() {
			took++
		}
	}
	d.Got(api.Result{Ok: true})
	if a, ok := d.Next(); took != 1 || d.Took() || ok || !reflect.DeepEqual(a, api.Access{}) {
		t.Error(took, d.Took(), a, ok)
	}
	answers(t, d, api.Answer{Found: true, Value: 2})
}

// P13.2: where nothing is found without a leaf.
func TestNothingFound(t *testing.T) {
	m := planted(t, config, "abcd", "abce", "x")
	for term, loads := range map[string]int{"c": 1, "a": 2, "ab": 2, "abc": 2, "abcf": 2, "abd": 2} {
		d := create(t, m, term)
		l, took := plant.Finish(m, 0, d, 99)
		want := append([]int{api.AEpoch, api.APin, api.ATurn}, slices.Repeat([]int{api.ALoad}, loads)...)
		is(t, l, append(want, api.AUnpin)...)
		if took != 2+loads {
			t.Error(term, took)
		}
		answers(t, d, api.Answer{})
	}
}

// P13.2: with a leaf of another key, the node is loaded again.
func TestOtherLeaf(t *testing.T) {
	m := planted(t, config, "x")
	d := create(t, m, "xy")
	l, took := plant.Finish(m, 0, d, 99)
	is(t, l, api.AEpoch, api.APin, api.ATurn, api.ALoad, api.ALoad, api.ALoad, api.AUnpin)
	if took != 5 || l[5].Ref != m.Root() {
		t.Error(took, l)
	}
	answers(t, d, api.Answer{})
	// A node that changed lets it start again, whatever became of it.
	for _, change := range []func(uint64) uint64{word.Unlock, plant.Lock} {
		d = create(t, m, "xy")
		plant.Finish(m, 0, d, 5)
		was := plant.At(m, m.Root()).Word
		plant.Rewrite(m, m.Root(), change)
		l, took = plant.Finish(m, 0, d, 1)
		if a, _ := d.Next(); took != -1 || a.Kind != api.ATurn {
			t.Error(took, a)
		}
		plant.Rewrite(m, m.Root(), func(uint64) uint64 { return was })
		l, took = plant.Finish(m, 0, d, 99)
		is(t, l, api.ATurn, api.ALoad, api.ALoad, api.ALoad, api.AUnpin)
		if took != 3 {
			t.Error(took)
		}
		answers(t, d, api.Answer{})
	}
}

// P13.2: case 1, a node that stays in its band, or the root.
func TestChange(t *testing.T) {
	m := planted(t, config, "aa", "ab", "ac", "b")
	for _, c := range []struct {
		term   string
		parent int
		value  int
		left   []api.Entry
	}{
		{"b", m.Root(), 4, plant.List("aa", "ab", "ac")},
		{"ac", plant.Child(m, m.Root(), 'a'), 3, plant.List("aa", "ab")},
	} {
		old, was := plant.Child(m, c.parent, c.term[len(c.term)-1]), plant.At(m, c.parent).Word
		d := create(t, m, c.term)
		until(t, m, d, api.ASwap)
		l, took := plant.Finish(m, 0, d, 99)
		is(t, l, api.ASwap, api.ARetire, api.AUnpin)
		refers(t, l, c.parent, old, 0)
		if took != 0 || l[0].Was != was || l[0].Words[0] != word.Unlock(was) {
			t.Error(took, l[0])
		}
		answers(t, d, api.Answer{Found: true, Value: c.value})
		reads(t, m, c.left)
	}
}

// P13.2: case 1 for the last term, and when the swap fails.
func TestChangeFails(t *testing.T) {
	m := planted(t, config, "a")
	d := create(t, m, "a")
	until(t, m, d, api.ASwap)
	plant.Rewrite(m, m.Root(), word.Unlock)
	l, took := plant.Finish(m, 0, d, 99)
	is(t, l, api.ASwap, api.ATurn, api.ALoad, api.ALoad, api.ASwap, api.ARetire, api.AUnpin)
	if took != 4 {
		t.Error(took)
	}
	answers(t, d, api.Answer{Found: true, Value: 1})
	reads(t, m, nil)
}

// full returns as many terms below one byte as the least of a kind has.
func full(kind int) []string {
	var terms []string
	for b := range node.Low(kind) {
		terms = append(terms, "ax"+string([]byte{byte(b + 1)}))
	}
	return terms
}

// P13.2: case 2, a node below its band is replaced by one of the kind below.
func TestShrink(t *testing.T) {
	for _, kind := range []int{api.C16, api.C48, api.C256} {
		// plant.Tree takes the smallest kind: the node is made as it must be.
		terms := full(kind)
		m := planted(t, config, terms...)
		smaller := plant.At(m, plant.Child(m, m.Root(), 'a'))
		n, _ := node.Turn(smaller, kind)
		n.Word = 8
		old := m.Do(0, api.Access{Kind: api.AAlloc, Class: kind, Words: node.Encode(n)}).N
		m.Do(0, api.Access{Kind: api.AFree, Ref: plant.Child(m, m.Root(), 'a')})
		root, _ := node.With(plant.At(m, m.Root()), 'a', old)
		m.Do(0, api.Access{Kind: api.AStore, Ref: m.Root(), Words: node.Encode(root)})
		leaf := plant.Child(m, old, 1)
		d := create(t, m, terms[0])
		until(t, m, d, api.AAlloc)
		l, took := plant.Finish(m, 0, d, 99)
		is(t, l, api.AAlloc, api.ASwap, api.ASwap, api.AStore, api.AStore, api.ARetire, api.ARetire, api.AUnpin)
		refers(t, l, 0, m.Root(), old, m.Root(), old, old, leaf, 0)
		if took != 3 || l[0].Class != kind-1 || l[0].Words[0] != 0 || l[4].Words[0] != word.Kill(8) {
			t.Error(took, l[0], l[4])
		}
		answers(t, d, api.Answer{Found: true, Value: 1})
		if k := plant.At(m, plant.Child(m, m.Root(), 'a')); k.Kind != kind-1 || k.Prefix != "x" || len(k.Keys) != node.Low(kind)-1 {
			t.Error(k)
		}
	}
}

// P13.2: case 3, a leaf that is left replaces the node.
func TestLiftLeaf(t *testing.T) {
	m := planted(t, config, "abcx", "abcy")
	old := plant.Child(m, m.Root(), 'a')
	x, y := plant.Child(m, old, 'x'), plant.Child(m, old, 'y')
	d := create(t, m, "abcx")
	until(t, m, d, api.ASwap)
	l, took := plant.Finish(m, 0, d, 99)
	is(t, l, api.ASwap, api.ASwap, api.AStore, api.AStore, api.ARetire, api.ARetire, api.AUnpin)
	refers(t, l, m.Root(), old, m.Root(), old, old, x, 0)
	if took != 2 || plant.Child(m, m.Root(), 'a') != y {
		t.Error(took)
	}
	answers(t, d, api.Answer{Found: true, Value: 1})
	reads(t, m, []api.Entry{{Term: "abcy", Value: 2}})
}

// P13.2: case 3, a node that is left replaces the node, with a combined prefix.
func TestLiftNode(t *testing.T) {
	m := planted(t, config, "abx", "abyzu", "abyzv")
	old := plant.Child(m, m.Root(), 'a')
	leaf, x := plant.Child(m, old, 'x'), plant.Child(m, old, 'y')
	plant.Rewrite(m, x, func(uint64) uint64 { return 20 })
	d := create(t, m, "abx")
	until(t, m, d, api.AAlloc)
	l, took := plant.Finish(m, 0, d, 99)
	is(t, l, api.AAlloc, api.ASwap, api.ASwap, api.ASwap, api.AStore, api.AStore, api.AStore,
		api.ARetire, api.ARetire, api.ARetire, api.AUnpin)
	refers(t, l, 0, m.Root(), old, x, m.Root(), old, x, old, x, leaf, 0)
	n, _ := node.Decode(l[0].Words)
	if took != 4 || l[0].Class != api.C4 || n.Prefix != "byz" || n.Word != 0 || string(n.Keys) != "uv" {
		t.Error(took, n)
	}
	if l[3].Was != 20 || l[3].Words[0] != 21 || l[6].Words[0] != word.Kill(20) {
		t.Error(l[3], l[6])
	}
	answers(t, d, api.Answer{Found: true, Value: 1})
	reads(t, m, []api.Entry{{Term: "abyzu", Value: 2}, {Term: "abyzv", Value: 3}})
}

// P13.2: the node that is left is loaded again while it is locked; if it is
// dead, the program starts again.
func TestChildLockedOrDead(t *testing.T) {
	m := planted(t, config, "x", "xyzu", "xyzv")
	old := plant.Child(m, m.Root(), 'x')
	x := plant.Child(m, old, 'y')
	d := create(t, m, "x")
	plant.Finish(m, 0, d, 6)
	plant.Rewrite(m, x, plant.Lock)
	for range 3 {
		if a, _ := plant.Step(m, 0, d); !reflect.DeepEqual(a, plant.Load(x)) {
			t.Error(a)
		}
	}
	plant.Rewrite(m, x, word.Kill)
	plant.Step(m, 0, d)
	plant.Rewrite(m, x, word.Unlock)
	l, took := plant.Finish(m, 0, d, 99)
	if took < 0 || l[0].Kind != api.ATurn {
		t.Error(took, l)
	}
	reads(t, m, []api.Entry{{Term: "xyzu", Value: 2}, {Term: "xyzv", Value: 3}})
}

// P13.2: what cannot be locked lets everything be undone, in the order of the
// document.
func TestLocksFail(t *testing.T) {
	terms := []string{"x", "xyzu", "xyzv"}
	for i, want := range [][]int{
		{api.ASwap, api.AFree, api.ATurn},
		{api.ASwap, api.ASwap, api.AStore, api.AFree, api.ATurn},
		{api.ASwap, api.ASwap, api.ASwap, api.AStore, api.AStore, api.AFree, api.ATurn},
	} {
		m := planted(t, config, terms...)
		old := plant.Child(m, m.Root(), 'x')
		refs := []int{m.Root(), old, plant.Child(m, old, 'y')}
		d := create(t, m, "x")
		until(t, m, d, api.ASwap)
		plant.Rewrite(m, refs[i], word.Unlock)
		live := m.Live()
		l, took := plant.Finish(m, 0, d, len(want))
		is(t, l, want...)
		if took != -1 || m.Live() != live-1 {
			t.Error(i, took, m.Live())
		}
		// What was locked last is unlocked first.
		for k := range i {
			if a := l[i+1+k]; a.Ref != refs[i-1-k] || a.Words[0] != word.Unlock(l[i-1-k].Was) {
				t.Error(i, k, a)
			}
		}
		reads(t, m, plant.List(terms...))
		plant.Finish(m, 0, d, 99)
		answers(t, d, api.Answer{Found: true, Value: 1})
		reads(t, m, []api.Entry{{Term: "xyzu", Value: 2}, {Term: "xyzv", Value: 3}})
	}
}

// P13.2: without room nothing is dropped, and nothing is retired.
func TestNoRoom(t *testing.T) {
	c := config
	c.Slots = [api.Classes]int{3, 2, 0, 0, 1}
	m := planted(t, c, "x", "xyzu", "xyzv")
	d := create(t, m, "x")
	until(t, m, d, api.AAlloc)
	l, took := plant.Finish(m, 0, d, 99)
	is(t, l, api.AAlloc, api.AUnpin)
	if took != 0 || m.Limbo(0) != 0 {
		t.Error(took, m.Limbo(0))
	}
	answers(t, d, api.Answer{Err: api.ErrFull})
	reads(t, m, plant.List("x", "xyzu", "xyzv"))
}

// P13.2: the errors of loads are answers.
func TestLoadErrors(t *testing.T) {
	for _, c := range []struct {
		term string
		gone func(m *mem.Mem) int
		free int
	}{
		{"x", func(m *mem.Mem) int { return plant.Child(m, plant.Child(m, m.Root(), 'x'), 0) }, 5},
		{"x", func(m *mem.Mem) int { return plant.Child(m, plant.Child(m, m.Root(), 'x'), 'y') }, 6},
		{"xyzuu", func(m *mem.Mem) int { return plant.Child(m, plant.Child(m, m.Root(), 'x'), 'y') }, 7},
		{"xyzu", func(m *mem.Mem) int { return plant.Child(m, m.Root(), 'x') }, 4},
	} {
		m := planted(t, config, "x", "xyzu", "xyzv")
		d := create(t, m, c.term)
		plant.Finish(m, 0, d, c.free)
		m.Do(0, api.Access{Kind: api.AFree, Ref: c.gone(m)})
		l, took := plant.Finish(m, 0, d, 99)
		is(t, l, api.ALoad, api.AUnpin)
		if took != 0 {
			t.Error(c.term, took)
		}
		answers(t, d, api.Answer{Err: api.ErrGen})
	}
}

// P13.1, P12.2: after enough tries the turnstile is taken, and given back.
func TestTurnstile(t *testing.T) {
	m := planted(t, config, "aa", "ab")
	inner := plant.Child(m, m.Root(), 'a')
	plant.Rewrite(m, inner, word.Kill)
	d := create(t, m, "ab")
	l := until(t, m, d, api.ATake)
	attempt := []int{api.ATurn, api.ALoad, api.ALoad}
	is(t, l, slices.Concat([]int{api.AEpoch, api.APin}, attempt, attempt, attempt)...)
	plant.Rewrite(m, inner, word.Unlock)
	l, _ = plant.Finish(m, 0, d, 99)
	is(t, l, api.ATake, api.ALoad, api.ALoad, api.ALoad, api.ASwap, api.ASwap, api.AStore, api.AStore,
		api.ARetire, api.ARetire, api.AGive, api.AUnpin)
	reads(t, m, plant.List("aa"))
}

// play performs all of a program, and frees what it retired.
func play(t *testing.T, m *mem.Mem, p plant.Program) api.Answer {
	t.Helper()
	plant.Finish(m, 0, p, 999)
	a, ok := p.Answer()
	if !ok {
		t.Fatal("not completed")
	}
	plant.Collect(m, config.Clients)
	return a
}

// slots counts the slots of a tree, and checks the bands of its nodes.
func slots(t *testing.T, m *mem.Mem, ref int) int {
	t.Helper()
	n, count := plant.At(m, ref), 1
	if _, _, leaf, _ := word.Parts(ref); !leaf && ref != m.Root() && len(n.Keys) < node.Low(n.Kind) {
		t.Error("below its band", n)
	}
	for _, kid := range n.Kids {
		count += slots(t, m, kid)
	}
	return count
}

// P13.3: putting and dropping a term leaves the tree as it was.
func TestPutAndDrop(t *testing.T) {
	r := rand.New(rand.NewSource(13))
	m := planted(t, config)
	var entries []api.Entry
	for range 3000 {
		b := make([]byte, 1+r.Intn(4))
		for i := range b {
			b[i] = byte(1 + r.Intn(2+58/(1+i*9)))
		}
		term := string(b)
		_, text := plant.Read(m)
		if i := shape.Seek(entries, term); i == len(entries) || entries[i].Term != term {
			p, _ := put.New(api.Op{Kind: api.OPut, Term: term, Value: 5}, m.Root(), 1)
			if a := play(t, m, p); a.Err != api.OK || a.Found {
				t.Fatal(a)
			}
			if a := play(t, m, create(t, m, term)); !reflect.DeepEqual(a, api.Answer{Found: true, Value: 5}) {
				t.Fatal(a)
			}
			if _, again := plant.Read(m); again != text {
				t.Fatal(again, text)
			}
		}
		if len(entries) < 150 && r.Intn(3) > 0 {
			p, _ := put.New(api.Op{Kind: api.OPut, Term: term, Value: 5}, m.Root(), 1)
			play(t, m, p)
			entries, _, _ = shape.Put(entries, api.Entry{Term: term, Value: 5})
		} else if len(entries) > 0 {
			term = entries[r.Intn(len(entries))].Term
			play(t, m, create(t, m, term))
			entries, _, _ = shape.Drop(entries, term)
		}
		if m.Live() != slots(t, m, m.Root()) {
			t.Fatal(m.Live())
		}
	}
	reads(t, m, entries)
}

// effect is an operation that took effect.
type effect struct {
	program plant.Program
	op      api.Op
}

// round lets one operation of each client take its steps in any order, and
// returns them in the order in which they took effect.
func round(t *testing.T, m *mem.Mem, r *rand.Rand) []effect {
	t.Helper()
	var all, order []effect
	for range config.Clients {
		term := strings.Repeat("a", r.Intn(3)) + string([]byte{byte('b' + r.Intn(3))}) + strings.Repeat("cd", r.Intn(2))
		if r.Intn(2) == 0 {
			all = append(all, effect{create(t, m, term), api.Op{Kind: api.ODrop, Term: term}})
			continue
		}
		o := api.Op{Kind: api.OPut, Term: term, Value: r.Intn(1000)}
		p, _ := put.New(o, m.Root(), 2)
		all = append(all, effect{p, o})
	}
	for open := len(all); open > 0; {
		k := r.Intn(len(all))
		if _, more := plant.Step(m, k, all[k].program); !more {
			continue
		}
		if all[k].program.Took() {
			order = append(order, all[k])
		}
		if _, ok := all[k].program.Answer(); ok {
			open--
		}
	}
	if len(order) != len(all) {
		t.Fatal("took effect", len(order))
	}
	return order
}

// P12.7, P13.2: puts and drops together are one order of operations on a map,
// and leave no lock and no slot.
func TestTogether(t *testing.T) {
	for seed := range int64(300) {
		r := rand.New(rand.NewSource(seed))
		m := planted(t, config)
		var entries []api.Entry
		for range 12 {
			for _, e := range round(t, m, r) {
				a, _ := e.program.Answer()
				var was int
				var there bool
				if e.op.Kind == api.OPut {
					entries, was, there = shape.Put(entries, api.Entry{Term: e.op.Term, Value: e.op.Value})
				} else {
					entries, was, there = shape.Drop(entries, e.op.Term)
				}
				if a.Err != api.OK || a.Found != there || a.Value != was {
					t.Fatal(seed, e.op, a, was, there)
				}
			}
			reads(t, m, entries)
			plant.Collect(m, config.Clients)
			if m.Live() != slots(t, m, m.Root()) || m.Do(0, api.Access{Kind: api.ATurn}).N != -1 {
				t.Fatal(seed, m.Live(), slots(t, m, m.Root()))
			}
		}
	}
}

// R1: results that no memory returns.
func TestWrongResults(t *testing.T) {
	m := planted(t, config)
	r := rand.New(rand.NewSource(12))
	for range 2000 {
		d := create(t, m, "abc")
		for range 40 {
			keys, kids := []byte("abc"), []int{65537, word.Ref(3, 3, true), word.Ref(3, 3, r.Intn(2) == 0)}
			cut := 1 + r.Intn(3)
			n := api.Node{Kind: 1 + r.Intn(4), Prefix: "abcdefghijkl"[:r.Intn(13)/(1+r.Intn(9))], Keys: keys[:cut], Kids: kids[:cut]}
			w := node.Encode(n)
			if r.Intn(4) == 0 {
				w = node.EncodeLeaf(api.Leaf{Key: "abc\x00"})
			}
			if r.Intn(9) == 0 {
				w = w[:r.Intn(len(w)+1)]
			}
			d.Got(api.Result{Err: api.Errno(r.Intn(20) / 19), N: r.Intn(200000) - 9, Ok: r.Intn(2) == 0, Words: w})
			d.Next()
			d.Answer()
		}
	}
}
