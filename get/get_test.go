package get_test

import (
	"math"
	"math/rand"
	"reflect"
	"strings"
	"testing"

	"tendril/api"
	"tendril/get"
	"tendril/mem"
	"tendril/node"
	"tendril/plant"
	"tendril/word"
)

var config = api.Config{Slots: [api.Classes]int{100, 40, 10, 4, 2}, Clients: 2, Limbo: 4, Tries: 3}

func planted(t *testing.T, l ...api.Entry) *mem.Mem {
	t.Helper()
	m, e := mem.New(config)
	if e != api.OK || !plant.Tree(m, l) {
		t.Fatal(e)
	}
	return m
}

func create(t *testing.T, term string, root int) *get.Get {
	t.Helper()
	g, e := get.New(api.Op{Kind: api.OGet, Term: term}, root)
	if g == nil || e != api.OK {
		t.Fatalf("%q %d", term, e)
	}
	return g
}

func answers(t *testing.T, g *get.Get, want api.Answer) {
	t.Helper()
	if a, ok := g.Answer(); !ok || !reflect.DeepEqual(a, want) {
		t.Errorf("%+v %v instead of %+v", a, ok, want)
	}
}

func TestExampleRun(t *testing.T) {
	m := planted(t)
	g := create(t, "a", m.Root())
	l, took := plant.Finish(m, 0, g, 99)
	want := []api.Access{{Kind: api.AEpoch}, {Kind: api.APin}, plant.Load(m.Root()), {Kind: api.AUnpin}}
	if !reflect.DeepEqual(l, want) || took != 2 {
		t.Error(l, took)
	}
	answers(t, g, api.Answer{})
}

// P10.1: which operations are gets.
func TestNew(t *testing.T) {
	for _, o := range []api.Op{
		{}, {Kind: api.OPut, Term: "a"}, {Kind: api.OGet}, {Kind: api.OGet, Term: "a\x00"},
		{Kind: api.OGet, Term: strings.Repeat("a", 13)}, {Kind: api.OGet, Term: "a", To: "b"},
		{Kind: api.OGet, Term: "a", Value: 1}, {Kind: api.OGet, Term: "a", Value: math.MinInt}, {Kind: -1, Term: "a"},
	} {
		if g, e := get.New(o, 65536); g != nil || e != api.ErrArg {
			t.Error(o, e)
		}
	}
	for _, root := range []int{0, -1, math.MaxInt} {
		g := create(t, strings.Repeat("a", 12), root)
		g.Got(api.Result{})
		g.Got(api.Result{Ok: true})
		if a, ok := g.Next(); !ok || !reflect.DeepEqual(a, plant.Load(root)) {
			t.Error(root, a, ok)
		}
	}
}

// P10: Next repeats itself, Answer waits for the end, and nothing follows it.
func TestProgram(t *testing.T) {
	m := planted(t, api.Entry{Term: "a", Value: 7})
	g := create(t, "a", m.Root())
	for range 9 {
		a, ok := g.Next()
		b, ok2 := g.Next()
		if !ok || !ok2 || !reflect.DeepEqual(a, b) {
			t.Fatal(a, b, ok, ok2)
		}
		if a, ok := g.Answer(); ok || !reflect.DeepEqual(a, api.Answer{}) {
			t.Fatal(a, ok)
		}
		g.Got(m.Do(0, a))
		if _, more := g.Next(); !more {
			break
		}
	}
	for range 3 {
		answers(t, g, api.Answer{Found: true, Value: 7})
		if a, ok := g.Next(); ok || !reflect.DeepEqual(a, api.Access{}) {
			t.Error(a, ok)
		}
		g.Got(m.Do(0, plant.Load(m.Root())))
		if g.Took() {
			t.Error("took effect after completion")
		}
	}
}

// P10.2: the pin is at the epoch that was returned.
func TestPin(t *testing.T) {
	m := planted(t)
	for n := range 3 {
		m.Do(1, api.Access{Kind: api.AAdvance, N: n})
	}
	g := create(t, "a", m.Root())
	l, _ := plant.Finish(m, 0, g, 2)
	if want := []api.Access{{Kind: api.AEpoch}, {Kind: api.APin, N: 3}}; !reflect.DeepEqual(l, want) {
		t.Error(l)
	}
	if n := m.Do(1, api.Access{Kind: api.APinOf}).N; n != 3 {
		t.Error(n)
	}
	plant.Finish(m, 0, g, 9)
	if n := m.Do(1, api.Access{Kind: api.APinOf}).N; n != -1 {
		t.Error(n)
	}
}

// P10.2: where nothing is found, and which loads lead there.
func TestDescent(t *testing.T) {
	m := planted(t, api.Entry{Term: "abcd", Value: 1}, api.Entry{Term: "abce", Value: 2}, api.Entry{Term: "b", Value: 3})
	root := m.Root()
	inner := plant.Child(m, root, 'a')
	leaf := func(ref int, b byte) int { return plant.Child(m, ref, b) }
	for _, c := range []struct {
		term  string
		loads []int
		took  int
		want  api.Answer
	}{
		{"c", []int{root}, 2, api.Answer{}},
		{"abcd", []int{root, inner, leaf(inner, 'd')}, 3, api.Answer{Found: true, Value: 1}},
		{"abce", []int{root, inner, leaf(inner, 'e')}, 3, api.Answer{Found: true, Value: 2}},
		{"b", []int{root, leaf(root, 'b')}, 2, api.Answer{Found: true, Value: 3}},
		{"ba", []int{root, leaf(root, 'b')}, 2, api.Answer{}},
		{"a", []int{root, inner}, 3, api.Answer{}},
		{"ab", []int{root, inner}, 3, api.Answer{}},
		{"ax", []int{root, inner}, 3, api.Answer{}},
		{"abc", []int{root, inner}, 3, api.Answer{}},
		{"abcf", []int{root, inner}, 3, api.Answer{}},
		{"abcdd", []int{root, inner, leaf(inner, 'd')}, 3, api.Answer{}},
	} {
		want := []api.Access{{Kind: api.AEpoch}, {Kind: api.APin}}
		for _, ref := range c.loads {
			want = append(want, plant.Load(ref))
		}
		want = append(want, api.Access{Kind: api.AUnpin})
		g := create(t, c.term, root)
		if l, took := plant.Finish(m, 0, g, 99); !reflect.DeepEqual(l, want) || took != c.took {
			t.Error(c.term, l, took)
		}
		answers(t, g, c.want)
	}
}

// P10.2: a locked node is loaded again, and after a dead one the root.
func TestLockedAndDead(t *testing.T) {
	m := planted(t, api.Entry{Term: "aa", Value: 1}, api.Entry{Term: "ab", Value: 2})
	inner := plant.Child(m, m.Root(), 'a')
	leaf := plant.Child(m, inner, 'b')
	for _, ref := range []int{m.Root(), inner} {
		g := create(t, "ab", m.Root())
		plant.Finish(m, 0, g, 2)
		if ref == inner {
			plant.Step(m, 0, g)
		}
		plant.Rewrite(m, ref, plant.Lock)
		for range 5 {
			if a, _ := plant.Step(m, 0, g); !reflect.DeepEqual(a, plant.Load(ref)) || g.Took() {
				t.Error(a, g.Took())
			}
		}
		plant.Rewrite(m, ref, word.Kill)
		if a, _ := plant.Step(m, 0, g); !reflect.DeepEqual(a, plant.Load(ref)) {
			t.Error(a)
		}
		if a, _ := g.Next(); !reflect.DeepEqual(a, plant.Load(m.Root())) {
			t.Error(a)
		}
		plant.Rewrite(m, ref, word.Unlock)
		l, took := plant.Finish(m, 0, g, 99)
		if want := []api.Access{plant.Load(m.Root()), plant.Load(inner), plant.Load(leaf), {Kind: api.AUnpin}}; !reflect.DeepEqual(l, want) || took != 1 {
			t.Error(l, took)
		}
		answers(t, g, api.Answer{Found: true, Value: 2})
	}
}

// P10.2: the error of a load is the answer.
func TestLoadErrors(t *testing.T) {
	m := planted(t, api.Entry{Term: "a", Value: 1})
	g := create(t, "a", word.Ref(900, 1, false))
	if l, took := plant.Finish(m, 0, g, 99); len(l) != 4 || took != 2 || l[3].Kind != api.AUnpin {
		t.Error(l, took)
	}
	answers(t, g, api.Answer{Err: api.ErrArg})
	// At a leaf the operation took effect before.
	g = create(t, "a", m.Root())
	_, took := plant.Finish(m, 0, g, 3)
	m.Do(0, api.Access{Kind: api.AFree, Ref: plant.Child(m, m.Root(), 'a')})
	if l, late := plant.Finish(m, 0, g, 99); len(l) != 2 || took != 2 || late != -1 {
		t.Error(l, took, late)
	}
	answers(t, g, api.Answer{Err: api.ErrGen})
}

// P10.3: what is found is what was there when the operation took effect.
func TestTakesEffectAtTheNode(t *testing.T) {
	m := planted(t, api.Entry{Term: "a", Value: 1})
	g := create(t, "a", m.Root())
	if _, took := plant.Finish(m, 0, g, 3); took != 2 {
		t.Error(took)
	}
	m.Do(0, api.Access{Kind: api.AStore, Ref: m.Root(), Words: node.Encode(api.Node{Kind: api.C256, Word: 4})})
	plant.Finish(m, 0, g, 99)
	answers(t, g, api.Answer{Found: true, Value: 1})
}

// P10.3: all terms of a tree, and none beside them, are found.
func TestAgainstMap(t *testing.T) {
	var l []api.Entry
	values := map[string]int{}
	r := rand.New(rand.NewSource(10))
	for b := range 60 {
		term := string([]byte{byte('a' + b/20), byte(b%20 + 1)})
		if b%7 == 0 {
			l = append(l, api.Entry{Term: term, Value: r.Intn(100)})
			values[term] = l[len(l)-1].Value
		}
		term += "\xffz"
		l = append(l, api.Entry{Term: term, Value: r.Intn(100)})
		values[term] = l[len(l)-1].Value
	}
	m := planted(t, l...)
	for _, e := range l {
		for n := 1; n <= 5; n++ {
			term := (e.Term + "\x01\x01\x01")[:n]
			g := create(t, term, m.Root())
			plant.Finish(m, 0, g, 99)
			v, there := values[term]
			answers(t, g, api.Answer{Found: there, Value: v})
		}
	}
}

// R1: results that no memory returns end in an answer, or go on for ever.
func TestWrongResults(t *testing.T) {
	r := rand.New(rand.NewSource(1))
	for range 300 {
		g := create(t, "abc", 65536)
		for range 50 {
			w := node.Encode(api.Node{Kind: api.C4, Prefix: "abc"[:r.Intn(4)], Keys: []byte("b"), Kids: []int{65537}})
			w = w[:r.Intn(len(w)+1)]
			g.Got(api.Result{Err: api.Errno(r.Intn(20) / 19), N: r.Int(), Words: w})
			g.Next()
			g.Answer()
		}
	}
}
