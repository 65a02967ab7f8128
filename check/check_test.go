package check_test

import (
	"math/rand"
	"reflect"
	"slices"
	"strings"
	"testing"

	"tendril/api"
	"tendril/check"
	"tendril/mem"
	"tendril/node"
	"tendril/plant"
	"tendril/shape"
	"tendril/tree"
	"tendril/word"
)

func config(clients int) api.Config {
	return api.Config{Slots: [api.Classes]int{80, 40, 10, 3, 1}, Clients: clients, Limbo: 8, Tries: 3}
}

func put(t string, v int) api.Op { return api.Op{Kind: api.OPut, Term: t, Value: v} }

func create(t *testing.T, c api.Config, ops ...[]api.Op) *tree.Tree {
	t.Helper()
	x, e := tree.New(c, ops...)
	if e != api.OK {
		t.Fatal(e)
	}
	return x
}

// planted returns a machine with a tree of the terms a, b, .. and their values.
func planted(t *testing.T, terms ...string) *tree.Tree {
	t.Helper()
	x := create(t, config(1))
	if !plant.Tree(x.Mem(), plant.List(terms...)) {
		t.Fatal("no room")
	}
	return x
}

// sees compares what is seen of a tree.
func sees(t *testing.T, x *tree.Tree, want check.Look) {
	t.Helper()
	l := check.At(x)
	if !slices.Equal(l.Entries, want.Entries) || l.Text != want.Text || l.Slots != want.Slots || l.Fine != want.Fine {
		t.Errorf("%+v instead of %+v", l, want)
	}
	if check.Clean(x) != (want.Fine && want.Slots == x.Mem().Live()) {
		t.Error("Clean", want)
	}
}

func store(m *mem.Mem, ref int, words []uint64) {
	m.Do(0, api.Access{Kind: api.AStore, Ref: ref, Words: words})
}

func TestExampleRun(t *testing.T) {
	x := create(t, config(1), []api.Op{put("a", 1), {Kind: api.OGet, Term: "a"}})
	x.Play(make([]int, 14)...)
	sees(t, x, check.Look{Entries: plant.List("a"), Text: "(0:[a<1:a>])", Slots: 2, Fine: true})
}

// P16.1: what is seen of trees that are fine.
func TestFine(t *testing.T) {
	sees(t, planted(t), check.Look{Text: "(0:)", Slots: 1, Fine: true})
	for terms, slots := range map[string]int{"a": 2, "a b": 3, "a ab": 4, "abcd abce b": 5, "a ab abc abcd": 8} {
		l := plant.List(strings.Fields(terms)...)
		sees(t, planted(t, strings.Fields(terms)...), check.Look{Entries: l, Text: shape.Text(l), Slots: slots, Fine: true})
	}
	long := strings.Repeat("x", 12)
	sees(t, planted(t, long[:11], long), check.Look{
		Entries: plant.List(long[:11], long), Text: shape.Text(plant.List(long[:11], long)), Slots: 4, Fine: true,
	})
}

// P16.1: a locked or dead node, or one with too few children, is seen as it is.
func TestNodesThatAreSeen(t *testing.T) {
	terms := []string{"aa", "ab", "b"}
	want := check.Look{Entries: plant.List(terms...), Text: shape.Text(plant.List(terms...)), Slots: 5}
	for _, w := range []uint64{1, 2, 9, 14} {
		for _, root := range []bool{true, false} {
			x := planted(t, terms...)
			ref := x.Mem().Root()
			if !root {
				ref = plant.Child(x.Mem(), ref, 'a')
			}
			n := plant.At(x.Mem(), ref)
			n.Word = w
			store(x.Mem(), ref, node.Encode(n))
			sees(t, x, want)
		}
	}
	x := planted(t, terms...)
	ref := plant.Child(x.Mem(), x.Mem().Root(), 'a')
	n, _ := node.Without(plant.At(x.Mem(), ref), 'b')
	store(x.Mem(), ref, node.Encode(n))
	sees(t, x, check.Look{Entries: []api.Entry{{Term: "aa", Value: 1}, {Term: "b", Value: 3}}, Text: "(0:[a(0:[a<2:aa>])][b<1:b>])", Slots: 4})
}

// P16.1: each kind has its own least number of children.
func TestBands(t *testing.T) {
	for kind := api.C4; kind <= api.C48; kind++ {
		for children := node.Low(kind) - 1; children <= node.Low(kind); children++ {
			x := create(t, config(1))
			n := api.Node{Kind: kind}
			for b := range children {
				leaf := node.EncodeLeaf(api.Leaf{Key: "a" + string([]byte{byte(b + 1), 0})})
				r := x.Mem().Do(0, api.Access{Kind: api.AAlloc, Class: api.CLeaf, Words: leaf})
				n, _ = node.With(n, byte(b+1), r.N)
			}
			r := x.Mem().Do(0, api.Access{Kind: api.AAlloc, Class: kind, Words: node.Encode(n)})
			root, _ := node.With(plant.At(x.Mem(), x.Mem().Root()), 'a', r.N)
			store(x.Mem(), x.Mem().Root(), node.Encode(root))
			if l := check.At(x); l.Fine != (children == node.Low(kind)) || l.Slots != children+2 || len(l.Entries) != children {
				t.Error(kind, children, l)
			}
		}
	}
}

// P16.1: the text of what cannot be read is empty.
func TestPartsThatAreNotSeen(t *testing.T) {
	terms := []string{"aa", "ab", "b"}
	b := []api.Entry{{Term: "b", Value: 3}}
	for i, c := range []struct {
		change func(m *mem.Mem)
		want   check.Look
	}{
		{func(m *mem.Mem) { m.Do(0, api.Access{Kind: api.AFree, Ref: plant.Child(m, m.Root(), 'a')}) },
			check.Look{Entries: b, Text: "(0:[a][b<1:b>])", Slots: 2}},
		{func(m *mem.Mem) { store(m, plant.Child(m, m.Root(), 'a'), []uint64{0, 99}) },
			check.Look{Entries: b, Text: "(0:[a][b<1:b>])", Slots: 3}},
		{func(m *mem.Mem) { m.Do(0, api.Access{Kind: api.AFree, Ref: plant.Child(m, m.Root(), 'b')}) },
			check.Look{Entries: plant.List("aa", "ab"), Text: "(0:[a(0:[a<2:aa>][b<2:ab>])][b])", Slots: 4}},
		{func(m *mem.Mem) { store(m, plant.Child(m, m.Root(), 'b'), []uint64{1}) },
			check.Look{Entries: plant.List("aa", "ab"), Text: "(0:[a(0:[a<2:aa>][b<2:ab>])][b])", Slots: 5}},
		// A leaf whose key does not begin with its path.
		{func(m *mem.Mem) { store(m, plant.Child(m, m.Root(), 'b'), node.EncodeLeaf(api.Leaf{Key: "c\x00"})) },
			check.Look{Entries: plant.List("aa", "ab"), Text: "(0:[a(0:[a<2:aa>][b<2:ab>])][b])", Slots: 5}},
		{func(m *mem.Mem) {
			store(m, plant.Child(m, plant.Child(m, m.Root(), 'a'), 'b'), node.EncodeLeaf(api.Leaf{Key: "bb\x00"}))
		}, check.Look{Entries: []api.Entry{{Term: "aa", Value: 1}, {Term: "b", Value: 3}}, Text: "(0:[a(0:[a<2:aa>][b])][b<1:b>])", Slots: 5}},
		{func(m *mem.Mem) { store(m, m.Root(), nil) }, check.Look{Slots: 1}},
	} {
		x := planted(t, terms...)
		c.change(x.Mem())
		if l := check.At(x); l.Fine || check.Clean(x) || l.Text != c.want.Text || l.Slots != c.want.Slots || !slices.Equal(l.Entries, c.want.Entries) {
			t.Errorf("%d %+v instead of %+v", i, l, c.want)
		}
	}
}

// P16.1: a path that is too long ends the visit.
func TestLongPaths(t *testing.T) {
	x := create(t, config(1))
	m := x.Mem()
	root, _ := node.With(plant.At(m, m.Root()), 'r', m.Root())
	store(m, m.Root(), node.Encode(root))
	sees(t, x, check.Look{Text: strings.Repeat("(0:[r", 14) + strings.Repeat("])", 14), Slots: 14})
	// The same below a prefix.
	inner := m.Do(0, api.Access{Kind: api.AAlloc, Class: api.C4}).N
	n := api.Node{Kind: api.C4, Prefix: strings.Repeat("p", 12), Keys: []byte("xy"), Kids: []int{inner, inner}}
	store(m, inner, node.Encode(n))
	root, _ = node.With(plant.At(m, m.Root()), 'r', inner)
	store(m, m.Root(), node.Encode(root))
	sees(t, x, check.Look{Text: "(0:[r(12:pppppppppppp[x][y])])", Slots: 2})
}

// P16.2: Clean asks for all live slots.
func TestClean(t *testing.T) {
	x := planted(t, "a", "b")
	if !check.Clean(x) {
		t.Error("not clean")
	}
	ref := x.Mem().Do(0, api.Access{Kind: api.AAlloc, Class: api.CLeaf}).N
	if check.Clean(x) || !check.At(x).Fine {
		t.Error("a slot that is not reached")
	}
	x.Mem().Do(0, api.Access{Kind: api.AFree, Ref: ref})
	if !check.Clean(x) {
		t.Error("not clean")
	}
}

// P16.3: trees at rest.
func TestAtRest(t *testing.T) {
	for seed := range int64(200) {
		r := rand.New(rand.NewSource(seed))
		c := config(1 + r.Intn(4))
		var ops [][]api.Op
		for range c.Clients {
			var l []api.Op
			for range 15 {
				term := strings.Repeat("a", r.Intn(3)) + string([]byte{byte('b' + r.Intn(9))}) + strings.Repeat("cd", r.Intn(2))
				l = append(l, []api.Op{put(term, r.Intn(100)), {Kind: api.ODrop, Term: term}, {Kind: api.OTick}}[r.Intn(3)])
			}
			ops = append(ops, l)
		}
		x := create(t, c, ops...)
		for !x.Over() {
			client := r.Intn(c.Clients)
			x.Play(client, client, r.Intn(c.Clients))
			idle := true
			waiting := 0
			for k := range c.Clients {
				idle = idle && x.Idle(k)
				waiting += x.Mem().Limbo(k)
			}
			if l := check.At(x); idle && (!l.Fine || l.Text != shape.Text(l.Entries) || x.Mem().Live() != l.Slots+waiting) {
				t.Fatalf("%d %+v %d", seed, l, waiting)
			}
		}
	}
}

// R2: looking changes nothing, and what was seen is new memory.
func TestLookingChangesNothing(t *testing.T) {
	x := planted(t, "aa", "ab")
	l := check.At(x)
	l.Entries[0].Term = "?"
	again := check.At(x)
	if again.Entries[0].Term != "aa" || !reflect.DeepEqual(check.At(x), again) || len(x.Events()) != 0 || x.Faults() != 0 {
		t.Error(again)
	}
	if _, _, leaf, _ := word.Parts(x.Mem().Root()); leaf {
		t.Error("the root")
	}
}
