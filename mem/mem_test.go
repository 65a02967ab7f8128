package mem_test

import (
	"math"
	"reflect"
	"slices"
	"testing"

	"tendril/api"
	"tendril/mem"
	"tendril/node"
	"tendril/word"
)

var noClients = []int{-1, 2, math.MinInt, math.MaxInt}

func config() api.Config {
	return api.Config{Slots: [api.Classes]int{2, 2, 0, 0, 1}, Clients: 2, Limbo: 4, Tries: 3}
}

func create(t *testing.T, c api.Config) *mem.Mem {
	t.Helper()
	m, e := mem.New(c)
	if m == nil || e != api.OK {
		t.Fatal(c, e)
	}
	return m
}

// does compares the result of an access of client 0.
func does(t *testing.T, m *mem.Mem, a api.Access, want api.Result) {
	t.Helper()
	by(t, m, 0, a, want)
}

func by(t *testing.T, m *mem.Mem, client int, a api.Access, want api.Result) {
	t.Helper()
	r := m.Do(client, a)
	if len(r.Words) == 0 {
		r.Words = nil
	}
	if !reflect.DeepEqual(r, want) {
		t.Errorf("%d %+v: %+v instead of %+v", client, a, r, want)
	}
}

func padded(n int, words ...uint64) []uint64 {
	return append(slices.Clone(words), make([]uint64, n-len(words))...)
}

func TestExampleRuns(t *testing.T) {
	m := create(t, api.Config{Slots: [api.Classes]int{2, 0, 0, 0, 1}, Clients: 2, Limbo: 4, Tries: 3})
	if m.Root() != 65538 {
		t.Error(m.Root())
	}
	by(t, m, 0, api.Access{Kind: api.ATake}, api.Result{Ok: true})
	by(t, m, 1, api.Access{Kind: api.ATake}, api.Result{})
	by(t, m, 1, api.Access{Kind: api.ATurn}, api.Result{N: 0})
	by(t, m, 1, api.Access{Kind: api.AGive}, api.Result{})
	by(t, m, 0, api.Access{Kind: api.AGive}, api.Result{Ok: true})
	does(t, m, api.Access{Kind: api.AFree, Ref: 65538}, api.Result{Err: api.ErrArg})
	if m.Live() != 1 {
		t.Error(m.Live())
	}
}

// P9.1: which memories there are, and what they contain at first.
func TestNew(t *testing.T) {
	for _, change := range []func(*api.Config){
		func(c *api.Config) { c.Slots[0] = -1 },
		func(c *api.Config) { c.Slots[0] = 1025 },
		func(c *api.Config) { c.Slots[0] = 1022 },
		func(c *api.Config) { c.Slots[api.C256] = 0 },
		func(c *api.Config) { c.Clients = 0 },
		func(c *api.Config) { c.Clients = 9 },
		func(c *api.Config) { c.Limbo = 3 },
		func(c *api.Config) { c.Limbo = 65 },
		func(c *api.Config) { c.Tries = 0 },
		func(c *api.Config) { c.Tries = 101 },
		func(c *api.Config) { *c = api.Config{} },
	} {
		c := config()
		change(&c)
		if m, e := mem.New(c); m != nil || e != api.ErrArg {
			t.Error(c, e)
		}
	}
	for _, tries := range []int{1, 100} {
		c := config()
		c.Tries = tries
		m := create(t, c)
		if m.Root() != word.Ref(4, 1, false) || m.Live() != 1 || m.Now() != 0 {
			t.Error(m.Root(), m.Live(), m.Now())
		}
		for class, want := range [api.Classes]int{2, 2, 0, 0, 0} {
			if m.Room(class) != want {
				t.Error(class, m.Room(class))
			}
		}
		for c := range 2 {
			if m.Limbo(c) != 0 {
				t.Error(c, m.Limbo(c))
			}
		}
		n, ok := node.Decode(m.Do(0, api.Access{Kind: api.ALoad, Ref: m.Root()}).Words)
		if !ok || n.Kind != api.C256 || n.Word != 0 || n.Prefix != "" || len(n.Keys) != 0 {
			t.Error(n, ok)
		}
		does(t, m, api.Access{Kind: api.ATurn}, api.Result{N: -1})
	}
}

// P9.2: clients and kinds that there are not.
func TestNoAccess(t *testing.T) {
	m := create(t, config())
	refused := api.Result{Err: api.ErrArg}
	for _, c := range noClients {
		for kind := api.ALoad; kind <= api.AGive; kind++ {
			by(t, m, c, api.Access{Kind: kind, Ref: m.Root()}, refused)
		}
	}
	for _, kind := range []int{0, -1, 16, math.MinInt, math.MaxInt} {
		does(t, m, api.Access{Kind: kind, Ref: m.Root()}, refused)
	}
	if m.Live() != 1 {
		t.Error(m.Live())
	}
}

// P9.2: accesses to slots.
func TestSlots(t *testing.T) {
	m := create(t, config())
	leaf := word.Ref(0, 1, true)
	does(t, m, api.Access{Kind: api.AAlloc, Class: api.CLeaf, Words: []uint64{5, 6}}, api.Result{N: leaf})
	does(t, m, api.Access{Kind: api.ALoad, Ref: leaf}, api.Result{Words: padded(8, 5, 6)})
	does(t, m, api.Access{Kind: api.ASwap, Ref: leaf, Was: 4, Words: []uint64{7}}, api.Result{})
	does(t, m, api.Access{Kind: api.ASwap, Ref: leaf, Was: 5, Words: []uint64{7}}, api.Result{Ok: true})
	does(t, m, api.Access{Kind: api.ALoad, Ref: leaf}, api.Result{Words: padded(8, 7)})
	does(t, m, api.Access{Kind: api.AStore, Ref: leaf, Words: []uint64{8, 9}}, api.Result{})
	does(t, m, api.Access{Kind: api.ALoad, Ref: leaf}, api.Result{Words: padded(8, 8, 9)})
	does(t, m, api.Access{Kind: api.AFree, Ref: leaf}, api.Result{})
	does(t, m, api.Access{Kind: api.AAlloc, Class: api.C16}, api.Result{Err: api.ErrFull})
	does(t, m, api.Access{Kind: api.AAlloc, Class: 7}, api.Result{Err: api.ErrArg})
	for _, kind := range []int{api.ALoad, api.ASwap, api.AStore, api.AFree} {
		does(t, m, api.Access{Kind: kind, Ref: leaf}, api.Result{Err: api.ErrGen})
		does(t, m, api.Access{Kind: kind, Ref: word.Ref(0, 2, true)}, api.Result{Err: api.ErrFree})
		does(t, m, api.Access{Kind: kind, Ref: 0}, api.Result{Err: api.ErrArg})
	}
}

// P9.2: the root can be stored, but neither freed nor retired.
func TestRootStays(t *testing.T) {
	m := create(t, config())
	does(t, m, api.Access{Kind: api.AFree, Ref: m.Root()}, api.Result{Err: api.ErrArg})
	does(t, m, api.Access{Kind: api.ARetire, Ref: m.Root()}, api.Result{Err: api.ErrArg})
	if m.Limbo(0) != 0 || m.Live() != 1 {
		t.Error(m.Limbo(0), m.Live())
	}
	does(t, m, api.Access{Kind: api.AStore, Ref: m.Root(), Words: []uint64{3}}, api.Result{})
}

// P9.2: accesses to epochs and pins.
func TestEpochs(t *testing.T) {
	m := create(t, config())
	does(t, m, api.Access{Kind: api.AAdvance, N: 1}, api.Result{})
	does(t, m, api.Access{Kind: api.AAdvance, N: 0}, api.Result{Ok: true})
	does(t, m, api.Access{Kind: api.AEpoch}, api.Result{N: 1})
	does(t, m, api.Access{Kind: api.APin, N: 2}, api.Result{})
	by(t, m, 1, api.Access{Kind: api.APin, N: 1}, api.Result{Ok: true})
	does(t, m, api.Access{Kind: api.APinOf, N: 1}, api.Result{N: 1})
	does(t, m, api.Access{Kind: api.APinOf, N: 0}, api.Result{N: -1})
	does(t, m, api.Access{Kind: api.APinOf, N: 9}, api.Result{N: -1})
	by(t, m, 1, api.Access{Kind: api.AUnpin}, api.Result{Ok: true})
	does(t, m, api.Access{Kind: api.APinOf, N: 1}, api.Result{N: -1})
	if m.Now() != 1 {
		t.Error(m.Now())
	}
}

// P9.2, P9.3: what is retired is freed once, when it may be.
func TestRetireAndCollect(t *testing.T) {
	m := create(t, config())
	leaf := word.Ref(0, 1, true)
	does(t, m, api.Access{Kind: api.AAlloc, Class: api.CLeaf}, api.Result{N: leaf})
	does(t, m, api.Access{Kind: api.ARetire, Ref: 0}, api.Result{Err: api.ErrArg})
	does(t, m, api.Access{Kind: api.ARetire, Ref: leaf}, api.Result{})
	if m.Limbo(0) != 1 || m.Limbo(1) != 0 || m.Limbo(2) != 0 {
		t.Error(m.Limbo(0), m.Limbo(1))
	}
	for n := range 2 {
		does(t, m, api.Access{Kind: api.ACollect}, api.Result{})
		does(t, m, api.Access{Kind: api.AAdvance, N: n}, api.Result{Ok: true})
	}
	by(t, m, 1, api.Access{Kind: api.ACollect}, api.Result{})
	does(t, m, api.Access{Kind: api.ACollect}, api.Result{N: leaf, Ok: true})
	does(t, m, api.Access{Kind: api.ACollect}, api.Result{})
	does(t, m, api.Access{Kind: api.ALoad, Ref: leaf}, api.Result{Err: api.ErrGen})
	if m.Live() != 1 || m.Limbo(0) != 0 {
		t.Error(m.Live(), m.Limbo(0))
	}
}

// P9.2: the error of what ACollect frees is the error of ACollect.
func TestCollectErrors(t *testing.T) {
	m := create(t, config())
	leaf := word.Ref(0, 1, true)
	does(t, m, api.Access{Kind: api.AAlloc, Class: api.CLeaf}, api.Result{N: leaf})
	for range 2 {
		does(t, m, api.Access{Kind: api.ARetire, Ref: leaf}, api.Result{})
	}
	does(t, m, api.Access{Kind: api.ARetire, Ref: word.Ref(1, 1, true)}, api.Result{})
	does(t, m, api.Access{Kind: api.ARetire, Ref: word.Ref(1000, 1, true)}, api.Result{})
	does(t, m, api.Access{Kind: api.ARetire, Ref: leaf}, api.Result{Err: api.ErrFull})
	for n := range 2 {
		does(t, m, api.Access{Kind: api.AAdvance, N: n}, api.Result{Ok: true})
	}
	collect := api.Access{Kind: api.ACollect}
	does(t, m, collect, api.Result{N: leaf, Ok: true})
	for _, e := range []api.Errno{api.ErrGen, api.ErrFree, api.ErrArg} {
		does(t, m, collect, api.Result{Err: e})
	}
	does(t, m, collect, api.Result{})
}

// P9.2, P9.3: at most one client holds the turnstile.
func TestTurnstile(t *testing.T) {
	m := create(t, config())
	take, give, turn := api.Access{Kind: api.ATake}, api.Access{Kind: api.AGive}, api.Access{Kind: api.ATurn}
	no, yes := api.Result{}, api.Result{Ok: true}
	by(t, m, 0, give, no)
	by(t, m, 1, take, yes)
	by(t, m, 0, turn, api.Result{N: 1})
	by(t, m, 1, take, no)
	by(t, m, 0, take, no)
	by(t, m, 0, give, no)
	by(t, m, 1, give, yes)
	by(t, m, 1, give, no)
	by(t, m, 1, turn, api.Result{N: -1})
	by(t, m, 0, take, yes)
	by(t, m, 1, turn, api.Result{N: 0})
}

// P9.2: fields that a kind does not mention have no influence, and what it
// does is not seen in other fields of the result.
func TestOtherFields(t *testing.T) {
	full := func(kind int) api.Access {
		return api.Access{Kind: kind, Ref: 77, Class: 9, N: 77, Was: 77, Words: make([]uint64, 999)}
	}
	m := create(t, config())
	a := full(api.ALoad)
	a.Ref = m.Root()
	if r := m.Do(0, a); r.Err != api.OK || len(r.Words) != 264 || r.N != 0 || r.Ok {
		t.Error(r.Err, len(r.Words))
	}
	a = full(api.AAlloc)
	a.Class, a.Words = api.CLeaf, nil
	leaf := word.Ref(0, 1, true)
	does(t, m, a, api.Result{N: leaf})
	for _, kind := range []int{api.ARetire, api.AFree} {
		a = full(kind)
		a.Ref = leaf
		does(t, m, a, api.Result{})
	}
	for kind, want := range map[int]api.Result{
		api.AEpoch: {}, api.AUnpin: {Ok: true}, api.ACollect: {}, api.ATurn: {N: -1}, api.AGive: {},
	} {
		does(t, m, full(kind), want)
	}
	does(t, m, full(api.ATake), api.Result{Ok: true})
}

// P9.2: the words of a result are new memory.
func TestNoSharedMemory(t *testing.T) {
	m := create(t, config())
	r := m.Do(0, api.Access{Kind: api.ALoad, Ref: m.Root()})
	r.Words[0] = 99
	if again := m.Do(0, api.Access{Kind: api.ALoad, Ref: m.Root()}); again.Words[0] != 0 {
		t.Error(again.Words[0])
	}
}
