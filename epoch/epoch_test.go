package epoch_test

import (
	"math"
	"testing"

	"tendril/api"
	"tendril/epoch"
	"tendril/word"
)

var noClients = []int{-1, 2, math.MinInt, math.MaxInt}

func create(t *testing.T, clients, limbo int) *epoch.Epochs {
	t.Helper()
	e, err := epoch.New(clients, limbo)
	if e == nil || err != api.OK {
		t.Fatal(clients, limbo, err)
	}
	return e
}

// advance lets n epochs pass.
func advance(t *testing.T, e *epoch.Epochs, n int) {
	t.Helper()
	for range n {
		if !e.Advance(e.Now()) {
			t.Fatal("Advance", e.Now())
		}
	}
}

func collects(t *testing.T, e *epoch.Epochs, c, want int) {
	t.Helper()
	if ref, ok := e.Collect(c); ref != want || ok != (want != 0) {
		t.Error("Collect", c, ref, ok, "instead of", want)
	}
}

func TestExampleRuns(t *testing.T) {
	e := create(t, 1, 4)
	if err := e.Retire(0, 65536); err != api.OK {
		t.Error(err)
	}
	if !e.Advance(0) {
		t.Error("Advance(0)")
	}
	collects(t, e, 0, 0)
	if !e.Advance(1) {
		t.Error("Advance(1)")
	}
	collects(t, e, 0, 65536)
	if e.Pin(0, 3) {
		t.Error("Pin(0, 3)")
	}
	if !e.Pin(0, 1) || e.PinOf(0) != 1 || !e.Unpin(0) || e.PinOf(0) != -1 {
		t.Error("Pin(0, 1)")
	}
}

// P5.1: which Epochs there are, and how they begin.
func TestNew(t *testing.T) {
	for _, c := range [][2]int{
		{0, 4}, {-1, 4}, {9, 4}, {1, 3}, {1, 65}, {1, -4}, {math.MaxInt, 4}, {1, math.MinInt},
	} {
		if e, err := epoch.New(c[0], c[1]); e != nil || err != api.ErrArg {
			t.Error(c, err)
		}
	}
	for _, c := range [][2]int{{1, 4}, {8, 64}} {
		e := create(t, c[0], c[1])
		if e.Now() != 0 {
			t.Error(c, e.Now())
		}
		for k := range c[0] {
			if e.PinOf(k) != -1 || e.Limbo(k) != 0 {
				t.Error(c, k)
			}
			collects(t, e, k, 0)
		}
	}
}

// P5.2: pins of clients that there are, at epochs that there were.
func TestPin(t *testing.T) {
	e := create(t, 2, 4)
	advance(t, e, 3)
	for _, c := range noClients {
		if e.Pin(c, 0) || e.Unpin(c) || e.PinOf(c) != -1 {
			t.Error(c)
		}
	}
	for _, n := range []int{-1, 4, math.MinInt, math.MaxInt} {
		if e.Pin(1, n) || e.PinOf(1) != -1 {
			t.Error(n, e.PinOf(1))
		}
	}
	for _, n := range []int{0, 3, 1} {
		if !e.Pin(1, n) || e.PinOf(1) != n || e.PinOf(0) != -1 {
			t.Error(n, e.PinOf(1))
		}
	}
	if e.Pin(1, 4) || e.PinOf(1) != 1 {
		t.Error("a refused pin moved it", e.PinOf(1))
	}
	if !e.Unpin(1) || e.PinOf(1) != -1 || !e.Unpin(1) {
		t.Error("Unpin", e.PinOf(1))
	}
}

// P5.3: the epoch advances from where it is, up to MaxEpoch.
func TestAdvance(t *testing.T) {
	e := create(t, 1, 4)
	for _, from := range []int{-1, 1, math.MinInt, math.MaxInt} {
		if e.Advance(from) || e.Now() != 0 {
			t.Error(from, e.Now())
		}
	}
	// Pins do not hinder it: the programs look at them.
	e.Pin(0, 0)
	for n := range 5 {
		if !e.Advance(n) || e.Now() != n+1 || e.Advance(n) {
			t.Error(n, e.Now())
		}
	}
}

// P5.4: what can be retired, and how much.
func TestRetire(t *testing.T) {
	e := create(t, 2, 4)
	ref := word.Ref(9, 3, true)
	for _, c := range noClients {
		if err := e.Retire(c, ref); err != api.ErrArg || e.Limbo(c) != 0 {
			t.Error(c, err)
		}
	}
	noRefs := []int{0, -1, 1, word.Ref(0, 1, false) + 1024, math.MinInt, math.MaxInt}
	for i := range 5 {
		// ErrArg comes before ErrFull.
		for _, r := range noRefs {
			if err := e.Retire(1, r); err != api.ErrArg {
				t.Error(r, err)
			}
		}
		want := api.OK
		if i == 4 {
			want = api.ErrFull
		}
		if err := e.Retire(1, ref); err != want {
			t.Error(i, err)
		}
		if e.Limbo(1) != min(i+1, 4) || e.Limbo(0) != 0 {
			t.Error(i, e.Limbo(1), e.Limbo(0))
		}
	}
	advance(t, e, 2)
	collects(t, e, 1, ref)
	if err := e.Retire(1, ref); err != api.OK || e.Limbo(1) != 4 {
		t.Error(err, e.Limbo(1))
	}
}

// P5.5: a ref waits until the epoch has increased by two.
func TestCollect(t *testing.T) {
	e := create(t, 2, 4)
	for _, c := range noClients {
		collects(t, e, c, 0)
	}
	a, b := word.Ref(1, 1, false), word.Ref(2, 1, false)
	e.Retire(0, a)
	advance(t, e, 1)
	e.Retire(0, b)
	collects(t, e, 0, 0)
	advance(t, e, 1)
	collects(t, e, 1, 0)
	collects(t, e, 0, a)
	collects(t, e, 0, 0)
	if e.Limbo(0) != 1 {
		t.Error(e.Limbo(0))
	}
	advance(t, e, 7)
	collects(t, e, 0, b)
	collects(t, e, 0, 0)
}

// P5.6: everything is collected once, by its client, in order.
func TestOrder(t *testing.T) {
	e := create(t, 2, 64)
	for i := range 64 {
		e.Retire(i%2, word.Ref(i, 1, false))
		if i%9 == 0 {
			advance(t, e, 1)
		}
	}
	// One ref that was retired twice waits twice.
	e.Retire(0, word.Ref(0, 1, false))
	advance(t, e, 2)
	for i := range 64 {
		collects(t, e, i%2, word.Ref(i, 1, false))
	}
	collects(t, e, 0, word.Ref(0, 1, false))
	for c := range 2 {
		collects(t, e, c, 0)
	}
}
