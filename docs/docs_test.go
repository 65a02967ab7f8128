package docs_test

import (
	"math"
	"math/rand"
	"slices"
	"strconv"
	"strings"
	"testing"

	"tendril/api"
	"tendril/docs"
	"tendril/plant"
	"tendril/query"
	"tendril/shape"
	"tendril/token"
)

func config() api.Config {
	return api.Config{Slots: [api.Classes]int{300, 150, 100, 80, 1}, Clients: 2, Limbo: 4, Tries: 3}
}

func create(t *testing.T, c api.Config) *docs.Index {
	t.Helper()
	x, e := docs.New(c)
	if x == nil || e != api.OK {
		t.Fatal(e)
	}
	return x
}

func is(t *testing.T, what string, got, want api.Errno) {
	t.Helper()
	if got != want {
		t.Error(what, got, "instead of", want)
	}
}

func gets(t *testing.T, x *docs.Index, term string, want ...int) {
	t.Helper()
	if l, e := x.Get(term); e != api.OK || !slices.Equal(l, want) {
		t.Error(term, l, e, "instead of", want)
	}
}

func queries(t *testing.T, x *docs.Index, s string, want ...int) {
	t.Helper()
	if l, e := x.Query(s); e != api.OK || !slices.Equal(l, want) {
		t.Error(s, l, e, "instead of", want)
	}
}

func tells(t *testing.T, x *docs.Index, from, to string, most int, want ...string) {
	t.Helper()
	if l, e := x.Terms(from, to, most); e != api.OK || !slices.Equal(l, want) {
		t.Error(from, to, most, l, e, "instead of", want)
	}
}

// holds compares an index with documents: all that it says, and its tree.
func holds(t *testing.T, x *docs.Index, texts map[int]string) {
	t.Helper()
	var ids []int
	lists := map[string][]int{}
	for id := range texts {
		ids = append(ids, id)
	}
	slices.Sort(ids)
	if got := x.Ids(); !slices.Equal(got, ids) {
		t.Fatal(got, "instead of", ids)
	}
	for _, id := range ids {
		if s, ok := x.Doc(id); s != texts[id] || !ok {
			t.Fatal(id, s, ok)
		}
		terms, _ := token.Terms(texts[id])
		for _, term := range terms {
			lists[term] = append(lists[term], id)
		}
	}
	l, text := plant.Read(x.Mem())
	if len(l) != len(lists) || text != shape.Text(l) {
		t.Fatal(l, "instead of", lists)
	}
	seen := map[int]int{}
	for _, e := range l {
		if got, e2 := x.Get(e.Term); e2 != api.OK || !slices.Equal(got, lists[e.Term]) {
			t.Fatal(e, got, lists[e.Term])
		}
		if seen[e.Value]++; seen[e.Value] > 1 {
			t.Fatal("a list of two terms", l)
		}
	}
	for c := range 2 {
		if x.Mem().Limbo(c) != 0 {
			t.Fatal("something waits")
		}
	}
}

func TestExampleRuns(t *testing.T) {
	x := create(t, config())
	is(t, "Add", x.Add(3, "to be"), api.OK)
	is(t, "Add", x.Add(5, "or not to be"), api.OK)
	gets(t, x, "be", 3, 5)
	queries(t, x, "to !not", 3)
	tells(t, x, "n", "", 9, "not", "or", "to")
	is(t, "Add", x.Add(3, "x"), api.ErrThere)
	if l, e := x.Get(""); l != nil || e != api.ErrTerm {
		t.Error(l, e)
	}
	is(t, "Remove", x.Remove(3), api.OK)
	gets(t, x, "be", 5)
	is(t, "Remove", x.Remove(5), api.OK)
	if n := x.Mem().Live(); n != 1 {
		t.Error(n)
	}
}

// P24.1: the error of mem.New, and an index without documents.
func TestNew(t *testing.T) {
	for _, change := range []func(*api.Config){
		func(c *api.Config) { *c = api.Config{} },
		func(c *api.Config) { c.Slots[0] = 1024 },
		func(c *api.Config) { c.Slots[api.C256] = 0 },
		func(c *api.Config) { c.Clients = 9 },
		func(c *api.Config) { c.Tries = 0 },
	} {
		c := config()
		change(&c)
		if x, e := docs.New(c); x != nil || e != api.ErrArg {
			t.Error(c, e)
		}
	}
	x := create(t, config())
	holds(t, x, nil)
	if s, ok := x.Doc(0); s != "" || ok || x.Mem().Live() != 1 {
		t.Error(s, ok)
	}
	gets(t, x, "a")
	queries(t, x, "!a")
	tells(t, x, "", "", 16)
}

// P24.2: the errors of Add, in their order.
func TestAddErrors(t *testing.T) {
	x := create(t, config())
	is(t, "Add", x.Add(0, "a"), api.OK)
	long := strings.Repeat("x", 513)
	for _, id := range []int{-1, api.MaxDoc + 1, math.MinInt, math.MaxInt} {
		is(t, "id", x.Add(id, long), api.ErrArg)
	}
	is(t, "long", x.Add(0, long), api.ErrLong)
	is(t, "there", x.Add(0, strings.Repeat("x ", 256)), api.ErrThere)
	is(t, "edge", x.Add(api.MaxDoc, long[:512]), api.OK)
	is(t, "no terms", x.Add(7, ".,"), api.OK)
	is(t, "empty", x.Add(8, ""), api.OK)
	holds(t, x, map[int]string{0: "a", api.MaxDoc: long[:512], 7: ".,", 8: ""})
}

// P24.2 to P24.4: room for the terms, plus two, in each of four classes.
func TestRoom(t *testing.T) {
	for class := api.CLeaf; class <= api.C48; class++ {
		c := config()
		c.Slots[class] = 5
		x := create(t, c)
		is(t, "Add", x.Add(1, "a b c d"), api.ErrFull)
		is(t, "Add", x.Add(1, "a b c"), api.OK)
		room := x.Mem().Room(class) // 2 leaves, or 5 nodes
		is(t, "Add", x.Add(2, strings.Join([]string{"d", "e", "f", "g"}[:room-1], " ")), api.ErrFull)
		is(t, "Update", x.Update(1, "a b c"), api.ErrFull)
		holds(t, x, map[int]string{1: "a b c"})
		if room < 5 {
			is(t, "Remove", x.Remove(1), api.ErrFull)
			is(t, "Add", x.Add(2, ""), api.OK)
			is(t, "Remove", x.Remove(2), api.OK)
			is(t, "Update", x.Update(1, "a"), api.ErrFull)
			holds(t, x, map[int]string{1: "a b c"})
			continue
		}
		is(t, "Update", x.Update(1, ""), api.OK)
		is(t, "Update", x.Update(1, "a b c"), api.OK)
		is(t, "Remove", x.Remove(1), api.OK)
		is(t, "Add", x.Add(1, "a"), api.OK)
		is(t, "Update", x.Update(1, "a b c"), api.ErrFull)
		is(t, "Update", x.Update(1, "a b"), api.OK)
		holds(t, x, map[int]string{1: "a b"})
	}
}

// P24.3: a document that does not exist.
func TestRemoveErrors(t *testing.T) {
	x := create(t, config())
	x.Add(1, "a b")
	for _, id := range []int{0, 2, -1, math.MinInt, math.MaxInt} {
		is(t, "Remove", x.Remove(id), api.ErrNone)
	}
	holds(t, x, map[int]string{1: "a b"})
	is(t, "Remove", x.Remove(1), api.OK)
	is(t, "Remove", x.Remove(1), api.ErrNone)
	holds(t, x, nil)
}

// P24.4: the errors of Update, in their order, and what it does.
func TestUpdate(t *testing.T) {
	x := create(t, config())
	x.Add(1, "a b")
	x.Add(2, "b")
	long := strings.Repeat("x", 513)
	is(t, "id", x.Update(-1, long), api.ErrArg)
	is(t, "id", x.Update(api.MaxDoc+1, "a"), api.ErrArg)
	is(t, "long", x.Update(9, long), api.ErrLong)
	is(t, "none", x.Update(9, "a"), api.ErrNone)
	holds(t, x, map[int]string{1: "a b", 2: "b"})
	for _, text := range []string{"b c", "b, c!", "", "a b c d e f", "x", "a b"} {
		is(t, "Update", x.Update(1, text), api.OK)
		holds(t, x, map[int]string{1: text, 2: "b"})
	}
}

// P24.5: the errors of Load: of the first document that has one.
func TestLoadErrors(t *testing.T) {
	long := strings.Repeat("x", 513)
	for i, c := range []struct {
		l    []api.Doc
		want api.Errno
	}{
		{[]api.Doc{{Id: -1, Text: long}}, api.ErrArg},
		{[]api.Doc{{Id: 1}, {Id: api.MaxDoc + 1, Text: long}}, api.ErrArg},
		{[]api.Doc{{Id: 1}, {Id: -1}}, api.ErrArg},
		{[]api.Doc{{Id: 1}, {Id: 1, Text: long}}, api.ErrOrder},
		{[]api.Doc{{Id: 2}, {Id: 1}}, api.ErrOrder},
		{[]api.Doc{{Id: 1, Text: long}, {Id: 0}}, api.ErrLong},
		{[]api.Doc{{Id: 1}, {Id: 0}, {Id: 5, Text: long}}, api.ErrOrder},
		{[]api.Doc{{Id: 1, Text: strings.Repeat("x ", 256)}, {Id: 2, Text: "y"}, {Id: 3, Text: long}}, api.ErrLong},
	} {
		x := create(t, config())
		if e := x.Load(c.l); e != c.want {
			t.Error(i, e)
		}
		holds(t, x, nil)
		x.Add(1, "a")
		is(t, "there", x.Load(c.l), api.ErrThere)
		is(t, "there", x.Load(nil), api.ErrThere)
		holds(t, x, map[int]string{1: "a"})
	}
}

// P24.5: all documents, or none.
func TestLoad(t *testing.T) {
	x := create(t, config())
	l := []api.Doc{{Id: 0, Text: "a b"}, {Id: 7, Text: "b c"}, {Id: api.MaxDoc, Text: ""}}
	is(t, "Load", x.Load(nil), api.OK)
	memory := x.Mem()
	is(t, "Load", x.Load(l), api.OK)
	holds(t, x, map[int]string{0: "a b", 7: "b c", api.MaxDoc: ""})
	if x.Mem() != memory {
		t.Error("another memory")
	}
	l[0].Text = "?"
	for _, id := range x.Ids() {
		is(t, "Remove", x.Remove(id), api.OK)
	}
	is(t, "Load", x.Load([]api.Doc{{Id: 3, Text: "x"}}), api.OK)
	holds(t, x, map[int]string{3: "x"})
	c := config()
	c.Slots[api.CLeaf] = 6
	x = create(t, c)
	is(t, "full", x.Load([]api.Doc{{Id: 1, Text: "a b"}, {Id: 2, Text: "c d"}, {Id: 3, Text: "e"}}), api.ErrFull)
	holds(t, x, nil)
	if x.Mem().Live() != 1 {
		t.Error(x.Mem().Live())
	}
	is(t, "not full", x.Load([]api.Doc{{Id: 1, Text: "a b"}, {Id: 2, Text: "c d"}}), api.OK)
}

// P24.6: what is asked of the index.
func TestQuestions(t *testing.T) {
	x := create(t, config())
	x.Load([]api.Doc{{Id: 1, Text: "to be"}, {Id: 2, Text: "Not to be."}, {Id: 4, Text: "be quick"}, {Id: 9, Text: ""}})
	for _, term := range []string{"", "a\x00", strings.Repeat("a", 13)} {
		if l, e := x.Get(term); l != nil || e != api.ErrTerm {
			t.Error(term, l, e)
		}
	}
	gets(t, x, "be", 1, 2, 4)
	gets(t, x, "Be")
	gets(t, x, "b")
	gets(t, x, "\xff")
	queries(t, x, "be", 1, 2, 4)
	queries(t, x, "BE & !Not", 1, 4)
	queries(t, x, "!be", 9)
	queries(t, x, "zzz | quick", 4)
	queries(t, x, "!(to quick)", 1, 2, 4, 9)
	for s, want := range map[string]api.Errno{
		"": api.ErrQuery, "a&": api.ErrQuery, strings.Repeat("a", 13): api.ErrTerm, strings.Repeat("a", 513): api.ErrLong,
	} {
		if l, e := x.Query(s); l != nil || e != want {
			t.Error(s, l, e)
		}
	}
	tells(t, x, "", "", 16, "be", "not", "quick", "to")
	tells(t, x, "", "", 2, "be", "not")
	tells(t, x, "be\x00", "to", 16, "not", "quick")
	tells(t, x, "x", "a", 16)
	for _, c := range []struct {
		from, to string
		most     int
	}{{"", "", 0}, {"", "", 17}, {"", "", -1}, {strings.Repeat("a", 14), "", 1}, {"", strings.Repeat("a", 14), 1}} {
		if l, e := x.Terms(c.from, c.to, c.most); l != nil || e != api.ErrArg {
			t.Error(c, l, e)
		}
	}
}

// random returns a text of few words.
func random(r *rand.Rand) string {
	var words []string
	for range r.Intn(9) {
		words = append(words, strings.Repeat("ab", r.Intn(3))+strconv.FormatInt(int64(r.Intn(60)), 36))
	}
	return strings.Join(words, " ")
}

// P24.1 to P24.7: many changes; an index with another history says the same.
func TestHistory(t *testing.T) {
	for seed := range int64(12) {
		r := rand.New(rand.NewSource(seed))
		c := config()
		c.Clients = 1 + int(seed)%4
		x := create(t, c)
		texts := map[int]string{}
		for range 150 {
			id, text := r.Intn(40), random(r)
			_, there := texts[id]
			switch r.Intn(4) {
			case 0, 1:
				if e := x.Add(id, text); e == api.OK && !there {
					texts[id] = text
				} else if !there || e != api.ErrThere {
					t.Fatal(id, there, e)
				}
			case 2:
				if e := x.Update(id, text); e == api.OK && there {
					texts[id] = text
				} else if there || e != api.ErrNone {
					t.Fatal(id, there, e)
				}
			case 3:
				if e := x.Remove(id); e == api.OK && there {
					delete(texts, id)
				} else if there || e != api.ErrNone {
					t.Fatal(id, there, e)
				}
			}
			holds(t, x, texts)
		}
		y := create(t, config())
		for id, text := range texts {
			is(t, "Add", y.Add(id, text), api.OK)
		}
		for _, s := range []string{"a | b", "!c", "(a | ab1) !(aba | d)", "1 | 2 | 3 !4"} {
			l, e := x.Query(s)
			l2, e2 := y.Query(s)
			if !slices.Equal(l, l2) || e != e2 {
				t.Fatal(s, l, l2)
			}
			q, _ := query.Parse(s)
			var sets [][]int
			for _, term := range query.Terms(q) {
				ids, _ := x.Get(term)
				sets = append(sets, ids)
			}
			if want := query.Eval(q, sets, x.Ids()); !slices.Equal(l, want) {
				t.Fatal(s, l, want)
			}
		}
		l, _ := x.Terms("", "", 16)
		tells(t, y, "", "", 16, l...)
		for _, id := range x.Ids() {
			is(t, "Remove", x.Remove(id), api.OK)
		}
		holds(t, x, nil)
		if x.Mem().Live() != 1 {
			t.Fatal(x.Mem().Live())
		}
	}
}

// P24.2: with just enough room, all terms are put, whatever the tree is like.
func TestJustEnoughRoom(t *testing.T) {
	words := func(n int) string {
		var l []string
		for i := range n {
			l = append(l, "w"+strconv.FormatInt(int64(i), 36))
		}
		return strings.Join(l, " ")
	}
	for n := 1; n < 120; n += 7 {
		c := config()
		c.Slots = [api.Classes]int{n + 2, n + 2, n + 2, n + 2, 1}
		x := create(t, c)
		is(t, "Add", x.Add(1, words(n+1)), api.ErrFull)
		is(t, "Add", x.Add(1, words(n)), api.OK)
		holds(t, x, map[int]string{1: words(n)})
	}
}

// P24.1: numbers of lists are used again, and a list begins without what it
// had for another term.
func TestManyTerms(t *testing.T) {
	c := config()
	c.Slots[api.CLeaf] = 6
	x := create(t, c)
	is(t, "Add", x.Add(0, "x"), api.OK)
	for i := range 40 {
		text := "a" + strconv.Itoa(i) + " x"
		is(t, "Add", x.Add(i+1, text), api.OK)
		holds(t, x, map[int]string{0: "x", i + 1: text})
		is(t, "Remove", x.Remove(i+1), api.OK)
	}
	holds(t, x, map[int]string{0: "x"})
}

// R2: results are new memory.
func TestNoSharedMemory(t *testing.T) {
	x := create(t, config())
	x.Add(1, "a")
	x.Add(2, "a")
	for _, f := range []func() []int{
		x.Ids,
		func() []int { l, _ := x.Get("a"); return l },
		func() []int { l, _ := x.Query("a"); return l },
	} {
		f()[0] = 99
		if l := f(); !slices.Equal(l, []int{1, 2}) {
			t.Error(l)
		}
	}
}
