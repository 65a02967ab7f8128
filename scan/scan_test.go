package scan_test

import (
	"math"
	"math/rand"
	"reflect"
	"slices"
	"strings"
	"testing"

	"tendril/api"
	"tendril/mem"
	"tendril/node"
	"tendril/plant"
	"tendril/scan"
	"tendril/word"
)

var config = api.Config{Slots: [api.Classes]int{400, 200, 40, 4, 2}, Clients: 2, Limbo: 4, Tries: 3}

func planted(t *testing.T, l ...api.Entry) *mem.Mem {
	t.Helper()
	m, e := mem.New(config)
	if e != api.OK || !plant.Tree(m, l) {
		t.Fatal(e)
	}
	return m
}

func create(t *testing.T, from, to string, most, root int) *scan.Scan {
	t.Helper()
	s, e := scan.New(api.Op{Kind: api.OScan, Term: from, To: to, Value: most}, root)
	if s == nil || e != api.OK {
		t.Fatalf("%q %q %d %d", from, to, most, e)
	}
	return s
}

func answers(t *testing.T, s *scan.Scan, want ...api.Entry) {
	t.Helper()
	a, ok := s.Answer()
	if !ok || a.Err != api.OK || a.Found || a.Value != 0 || !slices.Equal(a.List, want) {
		t.Errorf("%+v %v instead of %+v", a, ok, want)
	}
}

func TestExampleRun(t *testing.T) {
	m := planted(t)
	s := create(t, "", "", 3, m.Root())
	l, took := plant.Finish(m, 0, s, 99)
	want := []api.Access{{Kind: api.AEpoch}, {Kind: api.APin}, plant.Load(m.Root()), {Kind: api.AUnpin}}
	if !reflect.DeepEqual(l, want) || took != 3 {
		t.Error(l, took)
	}
	answers(t, s)
}

// P11.1: which operations are scans.
func TestNew(t *testing.T) {
	long, longer := strings.Repeat("a", 13), strings.Repeat("a", 14)
	for _, o := range []api.Op{
		{}, {Kind: api.OGet, Value: 1}, {Kind: api.OScan}, {Kind: api.OScan, Value: -1}, {Kind: api.OScan, Value: 17},
		{Kind: api.OScan, Value: math.MaxInt}, {Kind: api.OScan, Value: 1, Term: longer}, {Kind: api.OScan, Value: 1, To: longer},
	} {
		if s, e := scan.New(o, 65536); s != nil || e != api.ErrArg {
			t.Error(o, e)
		}
	}
	for _, o := range []api.Op{
		{Kind: api.OScan, Value: 1}, {Kind: api.OScan, Value: 16, Term: long, To: long}, {Kind: api.OScan, Value: 3, Term: "b", To: "a"},
		{Kind: api.OScan, Value: 1, Term: "\x00\x00", To: "\x00"},
	} {
		if s, e := scan.New(o, -1); s == nil || e != api.OK {
			t.Error(o, e)
		}
	}
}

// P10, P11.2: Next repeats itself, and the operation takes effect at its end.
func TestProgram(t *testing.T) {
	m := planted(t, plant.List("a")...)
	s := create(t, "", "", 1, m.Root())
	for {
		a, ok := s.Next()
		b, _ := s.Next()
		if !reflect.DeepEqual(a, b) {
			t.Error(a, b)
		}
		if !ok {
			break
		}
		if a, ok := s.Answer(); ok || !reflect.DeepEqual(a, api.Answer{}) {
			t.Error(a, ok)
		}
		s.Got(m.Do(0, a))
		if s.Took() != (a.Kind == api.AUnpin) {
			t.Error(a, s.Took())
		}
	}
	s.Got(api.Result{})
	if s.Took() {
		t.Error("took effect again")
	}
	a, _ := s.Answer()
	a.List[0].Term = "?"
	answers(t, s, plant.List("a")...)
}

// P11.2: children that lie before the target are not loaded.
func TestAccesses(t *testing.T) {
	m := planted(t, plant.List("a", "abc", "abd", "c", "ca", "d")...)
	root := m.Root()
	a, c := plant.Child(m, root, 'a'), plant.Child(m, root, 'c')
	ab := plant.Child(m, a, 'b')
	leafA, abc, abd := plant.Child(m, a, 0), plant.Child(m, ab, 'c'), plant.Child(m, ab, 'd')
	leafC, ca, d := plant.Child(m, c, 0), plant.Child(m, c, 'a'), plant.Child(m, root, 'd')
	for _, k := range []struct {
		from, to string
		most     int
		loads    []int
		want     []string
	}{
		{"", "", 16, []int{root, a, leafA, ab, abc, abd, c, leafC, ca, d}, []string{"a", "abc", "abd", "c", "ca", "d"}},
		{"a", "", 1, []int{root, a, leafA}, []string{"a"}},
		{"a\x00", "", 1, []int{root, a, leafA, ab, abc}, []string{"abc"}},
		{"a\x00\x00", "", 1, []int{root, a, leafA, ab, abc}, []string{"abc"}},
		{"a\x01", "", 1, []int{root, a, ab, abc}, []string{"abc"}},
		{"abcz", "abe", 16, []int{root, a, ab, abc, abd, c, leafC}, []string{"abd"}},
		{"abd", "abd", 16, []int{root, a, ab, abd}, nil},
		{"abd", "abd\x00", 16, []int{root, a, ab, abd, c, leafC}, []string{"abd"}},
		{"c", "b", 16, []int{root, c, leafC}, nil},
		{"b", "", 2, []int{root, c, leafC, ca}, []string{"c", "ca"}},
		{"e", "", 2, []int{root}, nil},
		{"d\x00", "", 2, []int{root, d}, nil},
		{"\xff", "", 2, []int{root}, nil},
	} {
		s := create(t, k.from, k.to, k.most, root)
		l, took := plant.Finish(m, 0, s, 99)
		want := []api.Access{{Kind: api.AEpoch}, {Kind: api.APin}}
		for _, ref := range k.loads {
			want = append(want, plant.Load(ref))
		}
		want = append(want, api.Access{Kind: api.AUnpin})
		if !reflect.DeepEqual(l, want) || took != len(want)-1 {
			t.Errorf("%q %q %d: %v %d instead of %v", k.from, k.to, k.most, l, took, want)
		}
		answer, _ := s.Answer()
		var terms []string
		for _, e := range answer.List {
			terms = append(terms, e.Term)
		}
		if !slices.Equal(terms, k.want) {
			t.Errorf("%q %q %d: %q", k.from, k.to, k.most, terms)
		}
	}
}

// P11.2: the epoch that was returned is where the client is pinned.
func TestPin(t *testing.T) {
	m := planted(t)
	m.Do(1, api.Access{Kind: api.AAdvance})
	l, _ := plant.Finish(m, 0, create(t, "", "", 1, m.Root()), 99)
	if !reflect.DeepEqual(l[1], api.Access{Kind: api.APin, N: 1}) {
		t.Error(l)
	}
}

// P11.2: a locked node is loaded again; after a dead one the scan starts at the
// root with what it found.
func TestLockedAndDead(t *testing.T) {
	l := plant.List("aa", "ab", "ba", "bb")
	m := planted(t, l...)
	root := m.Root()
	a, b := plant.Child(m, root, 'a'), plant.Child(m, root, 'b')
	s := create(t, "", "", 9, root)
	plant.Finish(m, 0, s, 6)
	plant.Rewrite(m, b, plant.Lock)
	for range 4 {
		if x, _ := plant.Step(m, 0, s); !reflect.DeepEqual(x, plant.Load(b)) {
			t.Error(x)
		}
	}
	plant.Rewrite(m, b, word.Kill)
	plant.Step(m, 0, s)
	if x, _ := s.Next(); !reflect.DeepEqual(x, plant.Load(root)) {
		t.Error(x)
	}
	plant.Rewrite(m, b, word.Unlock)
	got, _ := plant.Finish(m, 0, s, 99)
	// The child for a may still lead to the target ab\0; its leaf aa may not.
	want := []api.Access{plant.Load(root), plant.Load(a), plant.Load(plant.Child(m, a, 'b')), plant.Load(b), plant.Load(plant.Child(m, b, 'a')), plant.Load(plant.Child(m, b, 'b')), {Kind: api.AUnpin}}
	if !reflect.DeepEqual(got, want) {
		t.Error(got, want)
	}
	answers(t, s, l...)
}

// P11.2: after an error there are no terms.
func TestLoadErrors(t *testing.T) {
	m := planted(t, plant.List("a", "b")...)
	m.Do(0, api.Access{Kind: api.AFree, Ref: plant.Child(m, m.Root(), 'b')})
	s := create(t, "", "", 9, m.Root())
	l, took := plant.Finish(m, 0, s, 99)
	if len(l) != 6 || took != 5 || l[5].Kind != api.AUnpin {
		t.Error(l, took)
	}
	if a, ok := s.Answer(); !ok || !reflect.DeepEqual(a, api.Answer{Err: api.ErrGen}) {
		t.Error(a, ok)
	}
	s = create(t, "", "", 9, word.Ref(0, 9, false))
	plant.Finish(m, 0, s, 99)
	if a, ok := s.Answer(); !ok || !reflect.DeepEqual(a, api.Answer{Err: api.ErrArg}) {
		t.Error(a, ok)
	}
}

// P11.3: on a tree that stays, a scan returns the first terms of the range.
func TestRanges(t *testing.T) {
	r := rand.New(rand.NewSource(11))
	random := func(most int) string {
		b := make([]byte, r.Intn(most+1))
		for i := range b {
			b[i] = "\x00\x01ab\xff"[r.Intn(5)]
		}
		return string(b)
	}
	var terms []string
	for len(terms) < 150 {
		if s := strings.ReplaceAll(random(6), "\x00", "c"); s != "" {
			terms = append(terms, s)
		}
	}
	slices.Sort(terms)
	l := plant.List(slices.Compact(terms)...)
	m := planted(t, l...)
	for range 2000 {
		from, to, most := random(7), random(7), 1+r.Intn(16)
		var want []api.Entry
		for _, e := range l {
			if e.Term >= from && (to == "" || e.Term < to) && len(want) < most {
				want = append(want, e)
			}
		}
		s := create(t, from, to, most, m.Root())
		plant.Finish(m, 0, s, 2000)
		answers(t, s, want...)
	}
}

// P11.3: a node is scanned as it was loaded, whatever becomes of it.
func TestNodesAsLoaded(t *testing.T) {
	m := planted(t, plant.List("a", "b", "c")...)
	s := create(t, "", "", 9, m.Root())
	plant.Finish(m, 0, s, 4)
	m.Do(0, api.Access{Kind: api.AStore, Ref: m.Root(), Words: node.Encode(api.Node{Kind: api.C256, Word: 4})})
	plant.Finish(m, 0, s, 99)
	answers(t, s, plant.List("a", "b", "c")...)
}

// R1: results that no memory returns.
func TestWrongResults(t *testing.T) {
	r := rand.New(rand.NewSource(2))
	for range 300 {
		s := create(t, "abc", "b", 3, 65536)
		for range 50 {
			n := api.Node{Kind: api.C4, Prefix: "abc"[:r.Intn(4)], Keys: []byte("ab"), Kids: []int{65537, word.Ref(3, 3, true)}}
			w := node.Encode(n)
			if r.Intn(3) == 0 {
				w = w[:r.Intn(len(w)+1)]
			}
			s.Got(api.Result{Err: api.Errno(r.Intn(20) / 19), N: r.Int(), Words: w})
			s.Next()
			s.Answer()
		}
	}
}
