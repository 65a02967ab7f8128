package put_test

import (
	"math"
	"math/rand"
	"reflect"
	"slices"
	"strings"
	"testing"

	"tendril/api"
	"tendril/mem"
	"tendril/node"
	"tendril/plant"
	"tendril/put"
	"tendril/shape"
	"tendril/word"
)

var config = api.Config{Slots: [api.Classes]int{300, 100, 30, 10, 2}, Clients: 4, Limbo: 4, Tries: 3}

func planted(t *testing.T, c api.Config, terms ...string) *mem.Mem {
	t.Helper()
	m, e := mem.New(c)
	if e != api.OK || !plant.Tree(m, plant.List(terms...)) {
		t.Fatal(e)
	}
	return m
}

func create(t *testing.T, m *mem.Mem, term string, value int) *put.Put {
	t.Helper()
	p, e := put.New(api.Op{Kind: api.OPut, Term: term, Value: value}, m.Root(), 3)
	if p == nil || e != api.OK {
		t.Fatalf("%q %d", term, e)
	}
	return p
}

func answers(t *testing.T, p *put.Put, want api.Answer) {
	t.Helper()
	if a, ok := p.Answer(); !ok || !reflect.DeepEqual(a, want) {
		t.Errorf("%+v %v instead of %+v", a, ok, want)
	}
}

// until performs accesses of p until it wants one of a kind.
func until(t *testing.T, m *mem.Mem, client int, p *put.Put, kind int) []api.Access {
	t.Helper()
	l, ok := plant.Until(m, client, p, kind, 99)
	if !ok {
		t.Fatal("no access of the kind", kind)
	}
	return l
}

// reads compares the tree with entries, and its shape.
func reads(t *testing.T, m *mem.Mem, want []api.Entry) {
	t.Helper()
	l, text := plant.Read(m)
	if !slices.Equal(l, want) || text != shape.Text(want) {
		t.Errorf("%v %q instead of %v", l, text, want)
	}
}

// is compares the kinds of accesses.
func is(t *testing.T, l []api.Access, want ...int) {
	t.Helper()
	if !slices.Equal(plant.Kinds(l), want) {
		t.Error(plant.Kinds(l), "instead of", want)
	}
}

func TestExampleRun(t *testing.T) {
	m := planted(t, config)
	p := create(t, m, "a", 5)
	l, took := plant.Finish(m, 0, p, 99)
	is(t, l, api.AEpoch, api.APin, api.ATurn, api.ALoad, api.AAlloc, api.ASwap, api.AUnpin)
	if took != 5 {
		t.Error(took)
	}
	answers(t, p, api.Answer{})
	reads(t, m, []api.Entry{{Term: "a", Value: 5}})
}

// P12.1: which operations are puts.
func TestNew(t *testing.T) {
	for _, o := range []api.Op{
		{}, {Kind: api.OGet, Term: "a"}, {Kind: api.OPut}, {Kind: api.OPut, Term: "a\x00"},
		{Kind: api.OPut, Term: strings.Repeat("a", 13)}, {Kind: api.OPut, Term: "a", To: "b"},
		{Kind: api.OPut, Term: "a", Value: -1}, {Kind: api.OPut, Term: "a", Value: api.MaxValue + 1},
	} {
		if p, e := put.New(o, 65536, 1); p != nil || e != api.ErrArg {
			t.Error(o, e)
		}
	}
	o := api.Op{Kind: api.OPut, Term: strings.Repeat("a", 12), Value: api.MaxValue}
	for _, tries := range []int{0, -1, math.MinInt} {
		if p, e := put.New(o, 65536, tries); p != nil || e != api.ErrArg {
			t.Error(tries, e)
		}
	}
	for _, tries := range []int{1, math.MaxInt} {
		if p, e := put.New(o, -1, tries); p == nil || e != api.OK {
			t.Error(tries, e)
		}
	}
}

// P10: Next repeats itself, Answer waits for the end, nothing follows it, and
// the operation takes effect once.
func TestProgram(t *testing.T) {
	m := planted(t, config, "aa", "ab")
	p := create(t, m, "ab", 9)
	took := 0
	for {
		a, ok := p.Next()
		b, _ := p.Next()
		if !reflect.DeepEqual(a, b) {
			t.Error(a, b)
		}
		if !ok {
			break
		}
		if len(b.Words) > 0 {
			b.Words[0] = 99
		}
		if a, ok := p.Answer(); ok || !reflect.DeepEqual(a, api.Answer{}) {
			t.Error(a, ok)
		}
		a, _ = p.Next()
		p.Got(m.Do(0, a))
		if p.Took() {
			took++
		}
	}
	p.Got(api.Result{Ok: true})
	if a, ok := p.Next(); took != 1 || p.Took() || ok || !reflect.DeepEqual(a, api.Access{}) {
		t.Error(took, p.Took(), a, ok)
	}
	answers(t, p, api.Answer{Found: true, Value: 2})
	// What was changed in a result did not reach the program.
	reads(t, m, []api.Entry{{Term: "aa", Value: 1}, {Term: "ab", Value: 9}})
}

// P12.2: the descent, as that of a get.
func TestDescent(t *testing.T) {
	m := planted(t, config, "abcd", "abce")
	m.Do(1, api.Access{Kind: api.AAdvance})
	inner := plant.Child(m, m.Root(), 'a')
	p := create(t, m, "abce", 9)
	l := until(t, m, 0, p, api.AAlloc)
	want := []api.Access{
		{Kind: api.AEpoch}, {Kind: api.APin, N: 1}, {Kind: api.ATurn}, plant.Load(m.Root()), plant.Load(inner), plant.Load(plant.Child(m, inner, 'e')),
	}
	if !reflect.DeepEqual(l, want) {
		t.Error(l)
	}
}

// P12.2: a locked node is loaded again; after a dead one an attempt begins.
func TestLockedAndDead(t *testing.T) {
	m := planted(t, config, "aa", "ab")
	inner := plant.Child(m, m.Root(), 'a')
	p := create(t, m, "ac", 9)
	plant.Finish(m, 0, p, 4)
	plant.Rewrite(m, inner, plant.Lock)
	for range 4 {
		if a, _ := plant.Step(m, 0, p); !reflect.DeepEqual(a, plant.Load(inner)) {
			t.Error(a)
		}
	}
	plant.Rewrite(m, inner, word.Kill)
	plant.Step(m, 0, p)
	if a, _ := p.Next(); !reflect.DeepEqual(a, api.Access{Kind: api.ATurn}) {
		t.Error(a)
	}
	plant.Rewrite(m, inner, word.Unlock)
	l, took := plant.Finish(m, 0, p, 99)
	is(t, l, api.ATurn, api.ALoad, api.ALoad, api.AAlloc, api.ASwap, api.AUnpin)
	if took != 4 {
		t.Error(took)
	}
}

// P12.2: after enough tries the turnstile is taken, and given back at the end.
func TestTurnstile(t *testing.T) {
	m := planted(t, config, "aa", "ab")
	inner := plant.Child(m, m.Root(), 'a')
	plant.Rewrite(m, inner, word.Kill)
	p := create(t, m, "ac", 9)
	l := until(t, m, 0, p, api.ATake)
	attempt := []int{api.ATurn, api.ALoad, api.ALoad}
	is(t, l, slices.Concat([]int{api.AEpoch, api.APin}, attempt, attempt, attempt)...)
	// Somebody else holds it.
	m.Do(1, api.Access{Kind: api.ATake})
	for range 3 {
		if a, _ := plant.Step(m, 0, p); !reflect.DeepEqual(a, api.Access{Kind: api.ATake}) {
			t.Error(a)
		}
	}
	m.Do(1, api.Access{Kind: api.AGive})
	l, _ = plant.Finish(m, 0, p, 5)
	// It holds it now, and needs nothing more at the next attempts.
	is(t, l, api.ATake, api.ALoad, api.ALoad, api.ALoad, api.ALoad)
	plant.Rewrite(m, inner, word.Unlock)
	until(t, m, 0, p, api.AAlloc)
	// The others wait before their attempts.
	q := create(t, m, "b", 1)
	l, _ = plant.Finish(m, 1, q, 6)
	is(t, l, api.AEpoch, api.APin, api.ATurn, api.ATurn, api.ATurn, api.ATurn)
	l, took := plant.Finish(m, 0, p, 99)
	is(t, l, api.AAlloc, api.ASwap, api.AGive, api.AUnpin)
	if took != 1 {
		t.Error(took)
	}
	l, _ = plant.Finish(m, 1, q, 99)
	is(t, l, api.ATurn, api.ALoad, api.AAlloc, api.ASwap, api.AUnpin)
	reads(t, m, []api.Entry{{Term: "aa", Value: 1}, {Term: "ab", Value: 2}, {Term: "ac", Value: 9}, {Term: "b", Value: 1}})
}

// P12.2: the error of a load is the answer; the turnstile is given back then,
// too.
func TestLoadErrors(t *testing.T) {
	p, _ := put.New(api.Op{Kind: api.OPut, Term: "a"}, 0, 1)
	m := planted(t, config, "a", "ba", "bb")
	l, took := plant.Finish(m, 0, p, 99)
	is(t, l, api.AEpoch, api.APin, api.ATurn, api.ALoad, api.AUnpin)
	if took != 3 {
		t.Error(took)
	}
	answers(t, p, api.Answer{Err: api.ErrArg})
	// Of a leaf.
	p = create(t, m, "a", 1)
	m.Do(0, api.Access{Kind: api.AFree, Ref: plant.Child(m, m.Root(), 'a')})
	l, took = plant.Finish(m, 0, p, 99)
	is(t, l, api.AEpoch, api.APin, api.ATurn, api.ALoad, api.ALoad, api.AUnpin)
	if took != 4 {
		t.Error(took)
	}
	answers(t, p, api.Answer{Err: api.ErrGen})
	// While it holds the turnstile.
	inner := plant.Child(m, m.Root(), 'b')
	plant.Rewrite(m, inner, word.Kill)
	p = create(t, m, "bc", 1)
	until(t, m, 0, p, api.ATake)
	plant.Finish(m, 0, p, 2)
	m.Do(0, api.Access{Kind: api.AFree, Ref: inner})
	l, took = plant.Finish(m, 0, p, 99)
	is(t, l, api.ALoad, api.AGive, api.AUnpin)
	if took != 0 {
		t.Error(took)
	}
	answers(t, p, api.Answer{Err: api.ErrGen})
}

// words returns what an AAlloc is passed, as a node and as a leaf.
func words(a api.Access) (api.Node, api.Leaf) {
	n, _ := node.Decode(a.Words)
	l, _ := node.DecodeLeaf(a.Words)
	return n, l
}

// P12.3: case 1, a key that differs within the prefix of a node.
func TestSplitPrefix(t *testing.T) {
	m := planted(t, config, "abcdx", "abcdy")
	root := m.Root()
	old := plant.Child(m, root, 'a')
	p := create(t, m, "abz", 7)
	l, took := plant.Finish(m, 0, p, 99)
	is(t, l, api.AEpoch, api.APin, api.ATurn, api.ALoad, api.ALoad, api.AAlloc, api.AAlloc, api.AAlloc,
		api.ASwap, api.ASwap, api.AStore, api.AStore, api.ARetire, api.AUnpin)
	if took != 10 || l[12].Ref != old {
		t.Error(took, l[12])
	}
	if _, leaf := words(l[5]); l[5].Class != api.CLeaf || leaf != (api.Leaf{Key: "abz\x00", Value: 7}) {
		t.Error(l[5], leaf)
	}
	rest, _ := words(l[6])
	if l[6].Class != api.C4 || rest.Prefix != "d" || string(rest.Keys) != "xy" || rest.Word != 0 {
		t.Error(rest)
	}
	fork, _ := words(l[7])
	if l[7].Class != api.C4 || fork.Prefix != "b" || string(fork.Keys) != "cz" || fork.Word != 0 {
		t.Error(fork)
	}
	answers(t, p, api.Answer{})
	reads(t, m, []api.Entry{{Term: "abcdx", Value: 1}, {Term: "abcdy", Value: 2}, {Term: "abz", Value: 7}})
	if n := plant.At(m, old); !word.Dead(n.Word) || m.Limbo(0) != 1 {
		t.Error(n.Word, m.Limbo(0))
	}
}

// P12.4: case 2, a node with room gets a leaf.
func TestAddLeaf(t *testing.T) {
	m := planted(t, config, "aa", "ab")
	old := plant.Child(m, m.Root(), 'a')
	was := plant.At(m, old).Word
	p := create(t, m, "a", 7)
	l, took := plant.Finish(m, 0, p, 99)
	is(t, l, api.AEpoch, api.APin, api.ATurn, api.ALoad, api.ALoad, api.AAlloc, api.ASwap, api.AUnpin)
	if took != 6 || l[6].Ref != old || l[6].Was != was || l[6].Words[0] != word.Unlock(was) {
		t.Error(took, l[6])
	}
	answers(t, p, api.Answer{})
	reads(t, m, []api.Entry{{Term: "a", Value: 7}, {Term: "aa", Value: 1}, {Term: "ab", Value: 2}})
}

// P12.5: case 3, a node without room is replaced by one of the next kind.
func TestGrow(t *testing.T) {
	for _, kind := range []int{api.C4, api.C16, api.C48} {
		var terms []string
		for b := range node.High(kind) {
			terms = append(terms, "a"+string([]byte{byte(b + 1)}))
		}
		m := planted(t, config, terms...)
		old := plant.Child(m, m.Root(), 'a')
		p := create(t, m, "a\xff", 0)
		l, took := plant.Finish(m, 0, p, 99)
		is(t, l, api.AEpoch, api.APin, api.ATurn, api.ALoad, api.ALoad, api.AAlloc, api.AAlloc,
			api.ASwap, api.ASwap, api.AStore, api.AStore, api.ARetire, api.AUnpin)
		if took != 9 || l[5].Class != api.CLeaf || l[6].Class != kind+1 || l[11].Ref != old {
			t.Error(took, l[5], l[6], l[11])
		}
		if l[7].Ref != m.Root() || l[8].Ref != old || l[9].Ref != m.Root() || l[10].Ref != old {
			t.Error(l[7:11])
		}
		locked, _ := word.Lock(l[8].Was)
		if l[8].Words[0] != locked || l[10].Words[0] != word.Kill(l[8].Was) || !slices.Equal(l[8].Words[1:], l[10].Words[1:]) {
			t.Error("the old node", l[8].Words[0], l[10].Words[0])
		}
		locked, _ = word.Lock(l[7].Was)
		if l[7].Words[0] != locked || l[9].Words[0] != word.Unlock(l[7].Was) {
			t.Error("the parent", l[7].Words[0], l[9].Words[0])
		}
		answers(t, p, api.Answer{})
		l2, _ := plant.Read(m)
		if len(l2) != node.High(kind)+1 || plant.At(m, plant.Child(m, m.Root(), 'a')).Kind != kind+1 {
			t.Error(l2)
		}
		reads(t, m, append(plant.List(terms...), api.Entry{Term: "a\xff"}))
	}
}

// P12.4: case 4, a leaf of the same key is replaced.
func TestReplaceLeaf(t *testing.T) {
	m := planted(t, config, "a", "b")
	old := plant.Child(m, m.Root(), 'b')
	p := create(t, m, "b", 7)
	l, took := plant.Finish(m, 0, p, 99)
	is(t, l, api.AEpoch, api.APin, api.ATurn, api.ALoad, api.ALoad, api.AAlloc, api.ASwap, api.ARetire, api.AUnpin)
	if took != 6 || l[7].Ref != old {
		t.Error(took, l[7])
	}
	answers(t, p, api.Answer{Found: true, Value: 2})
	reads(t, m, []api.Entry{{Term: "a", Value: 1}, {Term: "b", Value: 7}})
}

// P12.4: case 4, a leaf of another key gets a node above it.
func TestForkLeaf(t *testing.T) {
	for _, c := range []struct{ old, own, prefix string }{
		{"abcd", "abce", "bc"}, {"ab", "a", ""}, {"a", "ab", ""}, {"abcdefghijkl", "abcdefghijkm", "bcdefghijk"},
	} {
		m := planted(t, config, c.old)
		old := plant.Child(m, m.Root(), 'a')
		p := create(t, m, c.own, 7)
		l, took := plant.Finish(m, 0, p, 99)
		is(t, l, api.AEpoch, api.APin, api.ATurn, api.ALoad, api.ALoad, api.AAlloc, api.AAlloc, api.ASwap, api.AUnpin)
		if fork, _ := words(l[6]); took != 7 || l[6].Class != api.C4 || fork.Prefix != c.prefix || !slices.Contains(fork.Kids, old) {
			t.Error(took, fork)
		}
		answers(t, p, api.Answer{})
		want, _, _ := shape.Put([]api.Entry{{Term: c.old, Value: 1}}, api.Entry{Term: c.own, Value: 7})
		reads(t, m, want)
	}
}

// P12.3: without room what was allocated is freed again, the last one first.
func TestNoRoom(t *testing.T) {
	for _, c := range []struct {
		leaves, fours int
		want          []int
	}{
		{2, 9, []int{api.AAlloc, api.AUnpin}},
		{3, 1, []int{api.AAlloc, api.AAlloc, api.AFree, api.AUnpin}},
		{3, 2, []int{api.AAlloc, api.AAlloc, api.AAlloc, api.AFree, api.AFree, api.AUnpin}},
	} {
		m := planted(t, api.Config{Slots: [api.Classes]int{c.leaves, c.fours, 0, 0, 1}, Clients: 1, Limbo: 4, Tries: 1}, "abcdx", "abcdy")
		live := m.Live()
		p := create(t, m, "abz", 7)
		until(t, m, 0, p, api.AAlloc)
		l, took := plant.Finish(m, 0, p, 99)
		is(t, l, c.want...)
		if took != len(l)-2 || m.Live() != live {
			t.Error(took, m.Live())
		}
		if _, _, leaf, _ := word.Parts(l[len(l)-2].Ref); leaf != (c.leaves == 3) {
			t.Error("the leaf is not freed last", l)
		}
		answers(t, p, api.Answer{Err: api.ErrFull})
		reads(t, m, plant.List("abcdx", "abcdy"))
	}
}

// P12.3: an old leaf is not retired if there is no room for the new one.
func TestNoRoomForAnotherValue(t *testing.T) {
	m := planted(t, api.Config{Slots: [api.Classes]int{1, 0, 0, 0, 1}, Clients: 1, Limbo: 4, Tries: 1}, "a")
	p := create(t, m, "a", 7)
	plant.Finish(m, 0, p, 99)
	answers(t, p, api.Answer{Err: api.ErrFull})
	if m.Limbo(0) != 0 {
		t.Error(m.Limbo(0))
	}
	reads(t, m, plant.List("a"))
}

// P12.4: if the node changed, everything is freed, and an attempt begins.
func TestChangeFails(t *testing.T) {
	m := planted(t, config, "ab")
	p := create(t, m, "ac", 7)
	until(t, m, 0, p, api.ASwap)
	q := create(t, m, "ac", 8)
	plant.Finish(m, 1, q, 99)
	l, took := plant.Finish(m, 0, p, 99)
	is(t, l, api.ASwap, api.AFree, api.AFree, api.ATurn, api.ALoad, api.ALoad, api.ALoad, api.AAlloc, api.ASwap, api.ARetire, api.AUnpin)
	if _, _, leaf, _ := word.Parts(l[1].Ref); took != 8 || leaf || l[1].Ref == l[2].Ref {
		t.Error(took, l[1], l[2])
	}
	answers(t, p, api.Answer{Found: true, Value: 8})
	reads(t, m, []api.Entry{{Term: "ab", Value: 1}, {Term: "ac", Value: 7}})
}

// P12.4: what an attempt found is not the answer of a later one.
func TestAnswerOfLastAttempt(t *testing.T) {
	m := planted(t, config, "a", "b")
	p := create(t, m, "a", 7)
	until(t, m, 0, p, api.ASwap)
	n := plant.At(m, m.Root())
	n, _ = node.Without(n, 'a')
	n.Word = word.Unlock(n.Word)
	m.Do(1, api.Access{Kind: api.AStore, Ref: m.Root(), Words: node.Encode(n)})
	l, _ := plant.Finish(m, 0, p, 99)
	is(t, l, api.ASwap, api.AFree, api.ATurn, api.ALoad, api.AAlloc, api.ASwap, api.AUnpin)
	answers(t, p, api.Answer{})
}

// P12.5: if the parent or the node cannot be locked, what was locked is
// unlocked, and everything is freed.
func TestLocksFail(t *testing.T) {
	terms := []string{"aa", "ab", "ac", "ad"}
	for _, parent := range []bool{true, false} {
		m := planted(t, config, terms...)
		inner := plant.Child(m, m.Root(), 'a')
		p := create(t, m, "ae", 7)
		until(t, m, 0, p, api.ASwap)
		live := m.Live()
		want := []int{api.ASwap, api.AFree, api.AFree, api.ATurn}
		if ref := m.Root(); parent {
			plant.Rewrite(m, ref, word.Unlock)
		} else {
			plant.Rewrite(m, inner, word.Unlock)
			want = []int{api.ASwap, api.ASwap, api.AStore, api.AFree, api.AFree, api.ATurn}
		}
		before := plant.At(m, m.Root())
		l, took := plant.Finish(m, 0, p, len(want))
		is(t, l, want...)
		after := plant.At(m, m.Root())
		if took != -1 || m.Live() != live-2 || !word.Free(after.Word) || !parent && after.Word != word.Unlock(before.Word) {
			t.Error(parent, took, m.Live(), after.Word)
		}
		reads(t, m, plant.List(terms...))
		plant.Finish(m, 0, p, 99)
		reads(t, m, append(plant.List(terms...), api.Entry{Term: "ae", Value: 7}))
	}
}

// effect is a put that took effect.
type effect struct {
	put   *put.Put
	entry api.Entry
}

// round lets one put of each client take its steps in any order, and returns
// them in the order in which they took effect.
func round(t *testing.T, m *mem.Mem, r *rand.Rand) []effect {
	t.Helper()
	var all, order []effect
	for range config.Clients {
		term := strings.Repeat("a", r.Intn(3)) + string([]byte{byte('b' + r.Intn(6))}) + strings.Repeat("cd", r.Intn(2))
		e := api.Entry{Term: term, Value: r.Intn(1000)}
		all = append(all, effect{create(t, m, e.Term, e.Value), e})
	}
	for open := len(all); open > 0; {
		k := r.Intn(len(all))
		if _, more := plant.Step(m, k, all[k].put); !more {
			continue
		}
		if all[k].put.Took() {
			order = append(order, all[k])
		}
		if _, ok := all[k].put.Answer(); ok {
			open--
		}
	}
	if len(order) != len(all) {
		t.Fatal("took effect", len(order))
	}
	return order
}

// P12.7: whatever is picked, no lock and no slot is left over, and the terms
// are those that were put.
func TestTogether(t *testing.T) {
	full := 0
	for seed := range int64(300) {
		r := rand.New(rand.NewSource(seed))
		c := config
		if seed%3 == 0 {
			c.Slots = [api.Classes]int{20, 7, 1, 0, 1}
		}
		m := planted(t, c)
		var entries []api.Entry
		for range 12 {
			for _, e := range round(t, m, r) {
				a, _ := e.put.Answer()
				if a.Err == api.ErrFull {
					full++
					continue
				}
				more, was, there := shape.Put(entries, e.entry)
				if a.Err != api.OK || a.Found != there || a.Value != was {
					t.Fatal(seed, e.entry, a, was, there)
				}
				entries = more
			}
			reads(t, m, entries)
			plant.Collect(m, config.Clients)
			if m.Live() != plant.Slots(m, m.Root()) || m.Do(0, api.Access{Kind: api.ATurn}).N != -1 {
				t.Fatal(seed, m.Live(), plant.Slots(m, m.Root()))
			}
		}
	}
	if full == 0 {
		t.Error("there was always room")
	}
}

// R1: results that no memory returns.
func TestWrongResults(t *testing.T) {
	m := planted(t, config)
	r := rand.New(rand.NewSource(12))
	for range 2000 {
		p := create(t, m, "abc", 1)
		for range 40 {
			n := api.Node{Kind: 1 + r.Intn(4), Prefix: "abc\x00d"[:r.Intn(6)], Keys: []byte("abc"), Kids: []int{65537, word.Ref(3, 3, true), word.Ref(3, 3, r.Intn(2) == 0)}}
			w := node.Encode(n)
			if r.Intn(4) == 0 {
				w = node.EncodeLeaf(api.Leaf{Key: "abcdef\x00"[r.Intn(7):]})
			}
			if r.Intn(9) == 0 {
				w = w[:r.Intn(len(w)+1)]
			}
			p.Got(api.Result{Err: api.Errno(r.Intn(20) / 19), N: r.Intn(200000) - 9, Ok: r.Intn(2) == 0, Words: w})
			p.Next()
			p.Answer()
		}
	}
}
