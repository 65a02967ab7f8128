package drain_test

import (
	"math"
	"math/rand"
	"reflect"
	"strings"
	"testing"

	"tendril/api"
	"tendril/check"
	"tendril/drain"
	"tendril/lin"
	"tendril/shape"
	"tendril/tree"
)

func config(clients int) api.Config {
	return api.Config{Slots: [api.Classes]int{60, 30, 10, 3, 1}, Clients: clients, Limbo: 4, Tries: 3}
}

func get(t string) api.Op { return api.Op{Kind: api.OGet, Term: t} }

func put(t string, v int) api.Op { return api.Op{Kind: api.OPut, Term: t, Value: v} }

func create(t *testing.T, c api.Config, ops ...[]api.Op) *tree.Tree {
	t.Helper()
	x, e := tree.New(c, ops...)
	if e != api.OK {
		t.Fatal(e)
	}
	return x
}

func TestExampleRuns(t *testing.T) {
	ops := []api.Op{put("a", 1), get("a")}
	x := create(t, config(1), ops)
	if n := drain.Run(x, 99); n != 14 {
		t.Error(n)
	}
	if n := drain.Bound(config(1), ops); n != 1200 {
		t.Error(n)
	}
	if !drain.Settle(x) {
		t.Error("Settle")
	}
}

// P18.1: a round is one step of each client, in order.
func TestRound(t *testing.T) {
	x := create(t, config(3), []api.Op{get("a")}, nil, []api.Op{get("b"), get("c")})
	if !drain.Round(x) {
		t.Error("no step")
	}
	want := []api.Event{{Kind: api.EBegin, Op: get("a")}, {Kind: api.EBegin, Client: 2, Op: get("b")}}
	if l := x.Events(); !reflect.DeepEqual(l, want) {
		t.Error(l)
	}
	n := 1
	for drain.Round(x) {
		n++
	}
	// A get has a beginning and four accesses.
	if n != 10 || !x.Over() || drain.Round(x) {
		t.Error(n)
	}
}

// P18.2: how many rounds there are at most.
func TestBoundAndRun(t *testing.T) {
	ops := []api.Op{get("a"), get("a"), get("a")}
	for _, c := range []struct {
		clients int
		ops     [][]api.Op
		want    int
	}{
		{1, nil, 400}, {3, nil, 800}, {8, [][]api.Op{ops, nil, ops}, 200 * 7 * 9}, {0, nil, 200}, {-1, [][]api.Op{ops}, 0}, {-3, nil, -400},
	} {
		if n := drain.Bound(api.Config{Clients: c.clients}, c.ops...); n != c.want {
			t.Error(c, n)
		}
	}
	x := create(t, config(1), ops)
	for _, rounds := range []int{0, -1, math.MinInt} {
		if n := drain.Run(x, rounds); n != 0 || len(x.Events()) != 0 {
			t.Error(rounds, n)
		}
	}
	for _, c := range [][2]int{{4, 4}, {7, 7}, {math.MaxInt, 4}, {9, 0}} {
		if n := drain.Run(x, c[0]); n != c[1] {
			t.Error(c, n)
		}
	}
	if !x.Over() {
		t.Error("not over")
	}
}

// P18.2: a machine that is never over ends at a million rounds.
func TestRunEnds(t *testing.T) {
	x := create(t, config(2), []api.Op{put("a", 1)})
	// Nobody gives back what client 1 holds.
	x.Mem().Do(1, api.Access{Kind: api.ATake})
	if n := drain.Run(x, math.MaxInt); n != 1000000 || x.Over() {
		t.Error(n)
	}
}

// P18.3: three ticks of each client, which do not show in the events.
func TestSettle(t *testing.T) {
	x := create(t, config(2), []api.Op{put("a", 1), put("a", 2)}, []api.Op{put("b", 1), put("b", 2)})
	if drain.Settle(x) || x.Mem().Now() != 0 {
		t.Error("settled before the end")
	}
	x.Play(0)
	if drain.Settle(x) || x.Mem().Now() != 0 {
		t.Error("settled before the end")
	}
	drain.Run(x, 999)
	events := x.Events()
	if x.Mem().Limbo(0) != 1 || x.Mem().Limbo(1) != 1 {
		t.Error(x.Mem().Limbo(0), x.Mem().Limbo(1))
	}
	if !drain.Settle(x) || x.Mem().Limbo(0) != 0 || x.Mem().Limbo(1) != 0 || x.Mem().Now() != 6 {
		t.Error(x.Mem().Limbo(0), x.Mem().Limbo(1), x.Mem().Now())
	}
	if !reflect.DeepEqual(events, x.Events()) || !check.Clean(x) {
		t.Error(x.Events())
	}
	// A client that is pinned lets something wait.
	x = create(t, config(2), []api.Op{put("a", 1), put("a", 2)})
	drain.Run(x, 999)
	x.Mem().Do(1, api.Access{Kind: api.APin})
	if drain.Settle(x) || x.Mem().Limbo(0) != 1 {
		t.Error(x.Mem().Limbo(0))
	}
}

// random returns the operations of each client.
func random(r *rand.Rand, clients, most int) [][]api.Op {
	var ops [][]api.Op
	for range clients {
		var l []api.Op
		for range r.Intn(most) {
			term := strings.Repeat("a", r.Intn(3)) + string([]byte{byte('b' + r.Intn(1+r.Intn(20)))}) + strings.Repeat("cd", r.Intn(2))
			l = append(l, []api.Op{
				get(term), put(term, r.Intn(100)), put(term, r.Intn(100)), {Kind: api.ODrop, Term: term},
				{Kind: api.OScan, Term: term, Value: 1 + r.Intn(16)}, {Kind: api.OTick},
			}[r.Intn(6)])
		}
		ops = append(ops, l)
	}
	return ops
}

// P18.4, T1 to T6: whatever is picked, everything that is promised of the whole
// holds.
func TestTheWhole(t *testing.T) {
	for seed := range int64(500) {
		r := rand.New(rand.NewSource(seed))
		c := config(1 + r.Intn(8))
		c.Tries, c.Limbo = 1+r.Intn(4), 4+r.Intn(8)
		if r.Intn(3) == 0 {
			c.Slots = [api.Classes]int{4 + r.Intn(20), 2 + r.Intn(6), r.Intn(2), 0, 1}
		}
		ops := random(r, c.Clients, 20)
		x := create(t, c, ops...)
		var picks []int
		for range r.Intn(2000) {
			client := r.Intn(c.Clients + 1)
			for range 1 + r.Intn(6) {
				picks = append(picks, client)
			}
		}
		x.Play(picks...)
		bound := drain.Bound(c, ops...)
		if n := drain.Run(x, bound); n > bound || !x.Over() {
			t.Fatal("not over", seed, n, bound)
		}
		h, l := x.Events(), x.Dones()
		entries, at := lin.Replay(l)
		if at != -1 || !lin.Order(h, l) || lin.Scans(h, l) != -1 || x.Faults() != 0 {
			t.Fatal(seed, at, lin.Order(h, l), lin.Scans(h, l), x.Faults())
		}
		if look := check.At(x); !look.Fine || !reflect.DeepEqual(look.Entries, entries) && len(entries) > 0 || look.Text != shape.Text(entries) {
			t.Fatal(seed, look, entries)
		}
		if !drain.Settle(x) || !check.Clean(x) {
			t.Fatal("Settle", seed)
		}
	}
}

// P18.4, T5: a client that stops anywhere and goes on later.
func TestStopsAnywhere(t *testing.T) {
	ops := [][]api.Op{{put("aa", 1), put("ab", 2), {Kind: api.ODrop, Term: "aa"}, put("a", 3)}, {put("ac", 4), put("ad", 5), put("ae", 6), get("ab")}}
	c := config(2)
	c.Limbo = 20
	for n := range 60 {
		x := create(t, c, ops...)
		for range n {
			x.Step(0)
		}
		for range 400 {
			x.Step(1)
		}
		drain.Run(x, drain.Bound(c, ops...))
		entries, at := lin.Replay(x.Dones())
		if !x.Over() || at != -1 || x.Faults() != 0 || !drain.Settle(x) || !check.Clean(x) || len(entries) != 5 {
			t.Fatal(n, at, entries)
		}
	}
}
