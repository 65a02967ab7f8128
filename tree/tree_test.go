package tree_test

import (
	"math"
	"math/rand"
	"reflect"
	"strings"
	"testing"

	"tendril/api"
	"tendril/plant"
	"tendril/shape"
	"tendril/tree"
)

func config(clients int) api.Config {
	return api.Config{Slots: [api.Classes]int{60, 30, 10, 3, 1}, Clients: clients, Limbo: 4, Tries: 3}
}

func get(t string) api.Op { return api.Op{Kind: api.OGet, Term: t} }

func put(t string, v int) api.Op { return api.Op{Kind: api.OPut, Term: t, Value: v} }

func drop(t string) api.Op { return api.Op{Kind: api.ODrop, Term: t} }

func scan(from, to string, most int) api.Op {
	return api.Op{Kind: api.OScan, Term: from, To: to, Value: most}
}

var tick = api.Op{Kind: api.OTick}

func create(t *testing.T, c api.Config, ops ...[]api.Op) *tree.Tree {
	t.Helper()
	x, e := tree.New(c, ops...)
	if x == nil || e != api.OK {
		t.Fatal(e)
	}
	return x
}

// steps performs steps of a client until there is none, and counts them.
func steps(t *testing.T, x *tree.Tree, client int) int {
	t.Helper()
	for n := range 1000 {
		if !x.Step(client) {
			return n
		}
	}
	t.Fatal("no end")
	return 0
}

func begin(client int, o api.Op) api.Event {
	return api.Event{Kind: api.EBegin, Client: client, Op: o}
}

func done(client int, o api.Op, a api.Answer) api.Event {
	return api.Event{Kind: api.EDone, Client: client, Op: o, Answer: a}
}

func happened(t *testing.T, x *tree.Tree, want ...api.Event) {
	t.Helper()
	if l := x.Events(); len(l)+len(want) > 0 && !reflect.DeepEqual(l, want) {
		t.Errorf("%+v instead of %+v", l, want)
	}
}

func took(t *testing.T, x *tree.Tree, want ...api.Done) {
	t.Helper()
	if l := x.Dones(); len(l)+len(want) > 0 && !reflect.DeepEqual(l, want) {
		t.Errorf("%+v instead of %+v", l, want)
	}
}

func TestExampleRun(t *testing.T) {
	x := create(t, config(1), []api.Op{put("a", 1), get("a")})
	if n := steps(t, x, 0); n != 14 {
		t.Error(n)
	}
	found := api.Answer{Found: true, Value: 1}
	happened(t, x, begin(0, put("a", 1)), done(0, put("a", 1), api.Answer{}), begin(0, get("a")), done(0, get("a"), found))
	took(t, x, api.Done{Op: put("a", 1)}, api.Done{Begin: 2, Op: get("a"), Answer: found})
}

// P15.1: which operations are right.
func TestRight(t *testing.T) {
	long := strings.Repeat("a", 14)
	for _, o := range []api.Op{
		get("a"), put("a", 0), put("a", api.MaxValue), drop("a"), scan("", "", 1), scan("b", "a", 16), tick,
	} {
		for _, clients := range []int{1, 8} {
			if !tree.Right(o, clients) {
				t.Error(o, clients)
			}
		}
		for _, clients := range []int{0, -1, 9, math.MaxInt} {
			if tree.Right(o, clients) != (o.Kind != api.OTick) {
				t.Error(o, clients)
			}
		}
	}
	for _, o := range []api.Op{
		{}, {Kind: 6}, {Kind: -1}, get(""), get(long), {Kind: api.OGet, Term: "a", Value: 1}, put("a", -1), put("", 1),
		put("a", api.MaxValue+1), drop("a\x00"), {Kind: api.ODrop, Term: "a", To: "b"}, scan("", "", 0), scan("", "", 17),
		scan(long, "", 1), scan("", long, 1), {Kind: api.OTick, Value: 1},
	} {
		if tree.Right(o, 1) {
			t.Error(o)
		}
	}
}

// P15.1: which trees there are, and how they begin.
func TestNew(t *testing.T) {
	one := []api.Op{get("a")}
	for i, c := range []struct {
		config api.Config
		ops    [][]api.Op
	}{
		{api.Config{}, nil},
		{config(0), nil},
		{config(9), nil},
		{config(1), [][]api.Op{one, one}},
		{config(1), [][]api.Op{nil, nil}},
		{config(2), [][]api.Op{one, {get("a"), {}}}},
		{config(2), [][]api.Op{{get("")}}},
	} {
		if x, e := tree.New(c.config, c.ops...); x != nil || e != api.ErrArg {
			t.Error(i, e)
		}
	}
	x := create(t, config(3), one)
	happened(t, x)
	took(t, x)
	if x.Faults() != 0 || x.Over() || x.Config() != config(3) || x.Mem().Live() != 1 {
		t.Error(x.Faults(), x.Over(), x.Config())
	}
	for c := range 3 {
		if !x.Idle(c) {
			t.Error(c)
		}
	}
	if !create(t, config(1)).Over() || !create(t, config(2), nil, nil).Over() {
		t.Error("nothing is to be done")
	}
}

// P15.2: who is idle, and when everything is over.
func TestIdleAndOver(t *testing.T) {
	x := create(t, config(2), []api.Op{get("a"), tick})
	for _, c := range []int{-1, 2, math.MinInt, math.MaxInt} {
		if x.Idle(c) {
			t.Error(c)
		}
	}
	for i := range 11 {
		// A get has a beginning and four accesses, a tick one and five.
		if idle := i == 0 || i == 5; x.Idle(0) != idle || !x.Idle(1) || x.Over() {
			t.Error(i, x.Idle(0), x.Over())
		}
		if !x.Step(0) {
			t.Error(i)
		}
	}
	if !x.Idle(0) || !x.Over() {
		t.Error("not over")
	}
}

// P15.3: clients without steps.
func TestNoStep(t *testing.T) {
	x := create(t, config(2), nil, []api.Op{get("a")})
	for _, c := range []int{0, -1, 2, math.MinInt, math.MaxInt} {
		if x.Step(c) {
			t.Error(c)
		}
	}
	happened(t, x)
	if n := x.Play(0, 1, 5, 1, -1, 1, 0); n != 3 {
		t.Error(n)
	}
	if n := x.Play(); n != 0 {
		t.Error(n)
	}
	if n := x.Play(1, 1, 1, 1, 1); n != 2 {
		t.Error(n)
	}
	if x.Step(1) {
		t.Error("a step after the end")
	}
}

// P15.3: operations of several clients, in the order in which they take effect.
func TestInterleaved(t *testing.T) {
	x := create(t, config(2), []api.Op{put("a", 1)}, []api.Op{get("a"), tick})
	x.Play(0, 0, 0, 0, 1, 1, 1, 0, 0)
	took(t, x)
	x.Step(0)
	took(t, x, api.Done{Op: put("a", 1)})
	x.Step(1)
	// The get loads the root after the put took effect, but has no answer yet.
	took(t, x, api.Done{Op: put("a", 1)}, api.Done{Client: 1, Begin: 1, Op: get("a")})
	happened(t, x, begin(0, put("a", 1)), begin(1, get("a")))
	steps(t, x, 1)
	steps(t, x, 0)
	found := api.Answer{Found: true, Value: 1}
	happened(t, x, begin(0, put("a", 1)), begin(1, get("a")), done(1, get("a"), found), begin(1, tick),
		done(1, tick, api.Answer{}), done(0, put("a", 1), api.Answer{}))
	took(t, x, api.Done{Op: put("a", 1)}, api.Done{Client: 1, Begin: 1, Op: get("a"), Answer: found},
		api.Done{Client: 1, Begin: 3, Op: tick})
}

// P15.3: a put or a drop does not begin without room in the limbo.
func TestNoLimbo(t *testing.T) {
	for _, o := range []api.Op{put("a", 9), drop("a")} {
		x := create(t, config(2), []api.Op{put("a", 1), put("a", 2), put("a", 3), o, get("a")}, []api.Op{o})
		// Two refs wait: two more fit.
		for len(x.Events()) < 6 {
			x.Step(0)
		}
		if n := x.Mem().Limbo(0); n != 2 {
			t.Fatal(n)
		}
		if !x.Step(0) || !x.Idle(0) {
			t.Error("is in progress")
		}
		full := api.Answer{Err: api.ErrFull}
		l, d := x.Events(), x.Dones()
		if !reflect.DeepEqual(l[6:], []api.Event{begin(0, o), done(0, o, full)}) {
			t.Error(l[6:])
		}
		if !reflect.DeepEqual(d[3:], []api.Done{{Begin: 6, Op: o, Answer: full}}) {
			t.Error(d[3:])
		}
		steps(t, x, 0)
		if l := x.Events(); !reflect.DeepEqual(l[9].Answer, api.Answer{Found: true, Value: 3}) {
			t.Error(l[9])
		}
		// The other client has a limbo of its own.
		steps(t, x, 1)
		if l := x.Events(); !reflect.DeepEqual(l[11].Answer, api.Answer{Found: true, Value: 3}) {
			t.Error(l[11])
		}
	}
}

// P15.3: one ref that waits leaves room for three.
func TestLimboEdge(t *testing.T) {
	x := create(t, config(1), []api.Op{put("a", 1), put("a", 2), drop("a")})
	steps(t, x, 0)
	l := x.Events()
	if !reflect.DeepEqual(l[5].Answer, api.Answer{Found: true, Value: 2}) || x.Mem().Limbo(0) != 2 {
		t.Error(l[5], x.Mem().Limbo(0))
	}
}

// P15.3: accesses that are refused are faults, except an AAlloc.
func TestFaults(t *testing.T) {
	c := config(1)
	c.Slots[api.CLeaf] = 1
	x := create(t, c, []api.Op{put("a", 1), put("b", 2), get("a")})
	x.Play(make([]int, 16)...)
	if x.Faults() != 0 || x.Mem().Live() != 2 {
		t.Error(x.Faults(), x.Mem().Live())
	}
	steps(t, x, 0)
	l := x.Events()
	if l[3].Answer.Err != api.ErrFull || !l[5].Answer.Found || x.Faults() != 0 {
		t.Error(l, x.Faults())
	}
	// What the memory is not made for: the leaf is free.
	x = create(t, c, []api.Op{put("a", 1), get("a")})
	x.Play(make([]int, 12)...)
	x.Mem().Do(0, api.Access{Kind: api.AFree, Ref: 1<<48 + 1<<16})
	steps(t, x, 0)
	if l := x.Events(); x.Faults() != 1 || l[3].Answer.Err != api.ErrGen {
		t.Error(x.Faults(), l[3])
	}
}

// random returns operations on few terms.
func random(r *rand.Rand, n int) []api.Op {
	var l []api.Op
	for range n {
		term := strings.Repeat("a", r.Intn(3)) + string([]byte{byte('b' + r.Intn(5))}) + strings.Repeat("cd", r.Intn(2))
		l = append(l, []api.Op{
			get(term), put(term, r.Intn(100)), drop(term), scan(term, "", 1+r.Intn(16)), tick, put(term, r.Intn(9)), tick,
		}[r.Intn(7)])
	}
	return l
}

// P15.4: whatever is picked, there are no faults, and at rest the tree has the
// shape of its terms.
func TestNoFaults(t *testing.T) {
	for seed := range int64(400) {
		r := rand.New(rand.NewSource(seed))
		c := config(1 + r.Intn(8))
		c.Tries = 1 + r.Intn(3)
		if r.Intn(3) == 0 {
			c.Slots = [api.Classes]int{6, 3, 1, 0, 1}
		}
		var ops [][]api.Op
		for range c.Clients {
			ops = append(ops, random(r, 20))
		}
		x := create(t, c, ops...)
		for !x.Over() {
			client := r.Intn(c.Clients)
			x.Play(client, client, r.Intn(c.Clients))
		}
		l, text := plant.Read(x.Mem())
		if x.Faults() != 0 || text != shape.Text(l) || len(x.Dones()) != 20*c.Clients {
			t.Fatal(seed, x.Faults(), text, len(x.Dones()))
		}
	}
}

// R2, T6: results are new memory, arguments are not kept, and the same picks
// have the same results.
func TestNoSharedMemory(t *testing.T) {
	ops := []api.Op{put("a", 1), scan("", "", 3), get("a")}
	x := create(t, config(1), ops)
	ops[0], ops[1] = tick, tick
	steps(t, x, 0)
	want := x.Events()
	l, d := x.Events(), x.Dones()
	l[3].Answer.List[0].Term, d[1].Answer.List[0].Term = "?", "?"
	l[0].Client = 7
	happened(t, x, want...)
	if len(want[3].Answer.List) != 1 || want[3].Answer.List[0] != (api.Entry{Term: "a", Value: 1}) {
		t.Error(want[3])
	}
	y := create(t, config(1), []api.Op{put("a", 1), scan("", "", 3), get("a")})
	steps(t, y, 0)
	if !reflect.DeepEqual(y.Events(), x.Events()) || !reflect.DeepEqual(y.Dones(), x.Dones()) {
		t.Error("another result")
	}
}
