package tick_test

import (
	"math"
	"reflect"
	"testing"

	"tendril/api"
	"tendril/mem"
	"tendril/plant"
	"tendril/tick"
)

func machine(t *testing.T, clients int) *mem.Mem {
	t.Helper()
	m, e := mem.New(api.Config{Slots: [api.Classes]int{8, 0, 0, 0, 1}, Clients: clients, Limbo: 4, Tries: 1})
	if e != api.OK {
		t.Fatal(e)
	}
	return m
}

func create(t *testing.T, clients int) *tick.Tick {
	t.Helper()
	x, e := tick.New(api.Op{Kind: api.OTick}, clients)
	if x == nil || e != api.OK {
		t.Fatal(clients, e)
	}
	return x
}

// plays compares the accesses of a program, and checks its end.
func plays(t *testing.T, m *mem.Mem, client int, x *tick.Tick, want ...api.Access) {
	t.Helper()
	l, took := plant.Finish(m, client, x, 99)
	if !reflect.DeepEqual(l, want) || took != len(want)-1 {
		t.Error(l, took)
	}
	if a, ok := x.Answer(); !ok || !reflect.DeepEqual(a, api.Answer{}) {
		t.Error(a, ok)
	}
}

func pinOf(c int) api.Access { return api.Access{Kind: api.APinOf, N: c} }

func advance(n int) api.Access { return api.Access{Kind: api.AAdvance, N: n} }

var (
	epoch   = api.Access{Kind: api.AEpoch}
	collect = api.Access{Kind: api.ACollect}
)

func TestExampleRun(t *testing.T) {
	m := machine(t, 2)
	plays(t, m, 0, create(t, 2), epoch, pinOf(0), pinOf(1), advance(0), collect)
	if m.Now() != 1 {
		t.Error(m.Now())
	}
}

// P14.1: which operations are ticks.
func TestNew(t *testing.T) {
	for _, o := range []api.Op{
		{}, {Kind: api.OScan}, {Kind: 6}, {Kind: api.OTick, Term: "a"}, {Kind: api.OTick, To: "a"}, {Kind: api.OTick, Value: 1},
	} {
		if x, e := tick.New(o, 1); x != nil || e != api.ErrArg {
			t.Error(o, e)
		}
	}
	for _, n := range []int{0, -1, 9, math.MinInt, math.MaxInt} {
		if x, e := tick.New(api.Op{Kind: api.OTick}, n); x != nil || e != api.ErrArg {
			t.Error(n, e)
		}
	}
	create(t, 1)
	create(t, 8)
}

// P14.2: all clients are asked, as long as they let the epoch advance.
func TestPins(t *testing.T) {
	m := machine(t, 3)
	for n := range 2 {
		m.Do(0, advance(n))
	}
	m.Do(1, api.Access{Kind: api.APin, N: 2})
	plays(t, m, 0, create(t, 3), epoch, pinOf(0), pinOf(1), pinOf(2), advance(2), collect)
	// Client 1 is behind now: the epoch stays, and client 2 is not asked.
	for range 3 {
		plays(t, m, 2, create(t, 3), epoch, pinOf(0), pinOf(1), collect)
	}
	if m.Now() != 3 {
		t.Error(m.Now())
	}
	m.Do(1, api.Access{Kind: api.APin})
	plays(t, m, 2, create(t, 3), epoch, pinOf(0), pinOf(1), collect)
	m.Do(1, api.Access{Kind: api.AUnpin})
	m.Do(2, api.Access{Kind: api.APin, N: 1})
	plays(t, m, 2, create(t, 3), epoch, pinOf(0), pinOf(1), pinOf(2), collect)
	if m.Now() != 3 {
		t.Error(m.Now())
	}
}

// P14.2: the epoch advances from the one that was asked for.
func TestAdvancesOnce(t *testing.T) {
	m := machine(t, 1)
	x := create(t, 1)
	plant.Finish(m, 0, x, 2)
	m.Do(0, advance(0))
	plays(t, m, 0, x, advance(0), collect)
	if m.Now() != 1 {
		t.Error(m.Now())
	}
}

// P14.2: everything that may be freed is freed, and nothing of other clients.
func TestCollects(t *testing.T) {
	m := machine(t, 2)
	for i := range 5 {
		ref := m.Do(0, api.Access{Kind: api.AAlloc, Class: api.CLeaf}).N
		m.Do(i%2, api.Access{Kind: api.ARetire, Ref: ref})
	}
	plays(t, m, 0, create(t, 2), epoch, pinOf(0), pinOf(1), advance(0), collect)
	plays(t, m, 0, create(t, 2), epoch, pinOf(0), pinOf(1), advance(1), collect, collect, collect, collect)
	if m.Limbo(0) != 0 || m.Limbo(1) != 2 || m.Live() != 3 {
		t.Error(m.Limbo(0), m.Limbo(1), m.Live())
	}
	plays(t, m, 1, create(t, 2), epoch, pinOf(0), pinOf(1), advance(2), collect, collect, collect)
}

// P14.3: what a pinned client may hold is not freed.
func TestPinnedClientHolds(t *testing.T) {
	m := machine(t, 2)
	ref := m.Do(0, api.Access{Kind: api.AAlloc, Class: api.CLeaf}).N
	m.Do(1, api.Access{Kind: api.APin})
	m.Do(0, api.Access{Kind: api.ARetire, Ref: ref})
	for range 9 {
		plant.Finish(m, 0, create(t, 2), 99)
		if r := m.Do(1, api.Access{Kind: api.ALoad, Ref: ref}); r.Err != api.OK {
			t.Fatal(r.Err)
		}
	}
	if m.Now() != 1 {
		t.Error(m.Now())
	}
	m.Do(1, api.Access{Kind: api.AUnpin})
	for range 2 {
		plant.Finish(m, 0, create(t, 2), 99)
	}
	if m.Limbo(0) != 0 || m.Live() != 1 {
		t.Error(m.Limbo(0), m.Live())
	}
}

// P10: Next repeats itself, Answer waits for the end, and nothing follows it.
func TestProgram(t *testing.T) {
	m := machine(t, 1)
	x := create(t, 1)
	for {
		a, ok := x.Next()
		b, _ := x.Next()
		if !reflect.DeepEqual(a, b) {
			t.Error(a, b)
		}
		if !ok {
			break
		}
		if _, ok := x.Answer(); ok || x.Took() {
			t.Error(a, x.Took())
		}
		x.Got(m.Do(0, a))
	}
	if !x.Took() {
		t.Error("did not take effect")
	}
	x.Got(api.Result{Ok: true})
	if a, ok := x.Next(); x.Took() || ok || !reflect.DeepEqual(a, api.Access{}) {
		t.Error(x.Took(), a, ok)
	}
}

// P14.2: an error of ACollect ends the program, too.
func TestCollectError(t *testing.T) {
	m := machine(t, 1)
	ref := m.Do(0, api.Access{Kind: api.AAlloc, Class: api.CLeaf}).N
	m.Do(0, api.Access{Kind: api.ARetire, Ref: ref})
	m.Do(0, api.Access{Kind: api.AFree, Ref: ref})
	plays(t, m, 0, create(t, 1), epoch, pinOf(0), advance(0), collect)
	plays(t, m, 0, create(t, 1), epoch, pinOf(0), advance(1), collect)
	if m.Limbo(0) != 0 {
		t.Error(m.Limbo(0))
	}
}
