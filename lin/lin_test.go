package lin_test

import (
	"math"
	"math/rand"
	"slices"
	"strings"
	"testing"

	"tendril/api"
	"tendril/lin"
	"tendril/tree"
)

func get(t string) api.Op { return api.Op{Kind: api.OGet, Term: t} }

func put(t string, v int) api.Op { return api.Op{Kind: api.OPut, Term: t, Value: v} }

func drop(t string) api.Op { return api.Op{Kind: api.ODrop, Term: t} }

func scan(from, to string, most int) api.Op {
	return api.Op{Kind: api.OScan, Term: from, To: to, Value: most}
}

func found(v int) api.Answer { return api.Answer{Found: true, Value: v} }

func done(o api.Op, a api.Answer) api.Done { return api.Done{Op: o, Answer: a} }

func entry(t string, v int) api.Entry { return api.Entry{Term: t, Value: v} }

func replays(t *testing.T, l []api.Done, at int, want ...api.Entry) {
	t.Helper()
	if entries, i := lin.Replay(l); i != at || !slices.Equal(entries, want) {
		t.Error(l, entries, i)
	}
}

// chapter15 returns the history of the example of the machine.
func chapter15() ([]api.Event, []api.Done) {
	x, _ := tree.New(config(1), []api.Op{put("a", 1), get("a")})
	x.Play(make([]int, 14)...)
	return x.Events(), x.Dones()
}

func config(clients int) api.Config {
	return api.Config{Slots: [api.Classes]int{60, 30, 10, 3, 1}, Clients: clients, Limbo: 8, Tries: 2}
}

func TestExampleRuns(t *testing.T) {
	replays(t, []api.Done{done(put("a", 1), api.Answer{}), done(get("a"), found(1))}, -1, entry("a", 1))
	replays(t, []api.Done{done(get("a"), found(1))}, 0)
	h, l := chapter15()
	if !lin.Order(h, l) {
		t.Error("Order")
	}
	slices.Reverse(l)
	if lin.Order(h, l) {
		t.Error("Order of the reverse")
	}
}

// P17.1: answers that are required, and what the operations do.
func TestReplay(t *testing.T) {
	l := []api.Done{
		done(get("b"), api.Answer{}),
		done(drop("b"), api.Answer{}),
		done(put("b", 1), api.Answer{}),
		done(put("a", 2), api.Answer{}),
		done(put("b", 3), found(1)),
		done(get("b"), found(3)),
		done(put("c", 0), api.Answer{}),
		done(drop("a"), found(2)),
		done(get("a"), api.Answer{}),
		done(drop("c"), found(0)),
		done(put("b", 9), api.Answer{Err: api.ErrFull}),
		done(drop("b"), api.Answer{Err: api.ErrFull}),
		done(put("d", 9), api.Answer{Err: api.ErrFull}),
	}
	replays(t, l, -1, entry("b", 3))
	replays(t, l[:5], -1, entry("a", 2), entry("b", 3))
	replays(t, nil, -1)
}

// P17.1: every other answer is a violation, and the entries are those before.
func TestReplayViolations(t *testing.T) {
	before := done(put("a", 1), api.Answer{})
	list := []api.Entry{entry("a", 1)}
	for i, d := range []api.Done{
		done(get("a"), api.Answer{}),
		done(get("a"), found(2)),
		done(get("a"), api.Answer{Value: 1}),
		done(get("a"), api.Answer{Found: true, Value: 1, List: list}),
		done(get("a"), api.Answer{Err: api.ErrFull}),
		done(get("a"), api.Answer{Err: api.ErrGen, Found: true, Value: 1}),
		done(get("b"), found(0)),
		done(get("b"), api.Answer{Value: 1}),
		done(put("a", 2), api.Answer{}),
		done(put("a", 2), found(2)),
		done(put("a", 2), api.Answer{Err: api.ErrArg, Found: true, Value: 1}),
		done(put("a", 2), api.Answer{Err: api.ErrFull, Found: true}),
		done(put("a", 2), api.Answer{Err: api.ErrFull, Value: 1}),
		done(put("a", 2), api.Answer{Err: api.ErrFull, List: list}),
		done(put("b", 2), found(0)),
		done(drop("a"), api.Answer{}),
		done(drop("a"), api.Answer{Found: true}),
		done(drop("a"), api.Answer{Err: api.ErrFull, Found: true, Value: 1}),
		done(drop("a"), api.Answer{Err: api.ErrForm}),
		done(drop("b"), found(1)),
		done(drop("a"), api.Answer{Found: true, Value: 1, List: list}),
	} {
		if entries, at := lin.Replay([]api.Done{before, d, before}); at != 1 || !slices.Equal(entries, list) {
			t.Error(i, entries, at)
		}
	}
}

// P17.1: other kinds are ignored, and any string and any number will do.
func TestReplayOfAnything(t *testing.T) {
	odd := api.Answer{Err: 99, Found: true, Value: 7, List: []api.Entry{entry("", 0)}}
	long := strings.Repeat("x", 99)
	replays(t, []api.Done{
		done(scan("", "", 1), odd), done(api.Op{Kind: api.OTick}, odd), done(api.Op{}, odd), done(api.Op{Kind: -1}, odd),
		done(put(long, math.MinInt), api.Answer{}), done(put("", -1), api.Answer{}), done(put("a\x00", math.MaxInt), api.Answer{}),
		done(get(""), found(-1)), done(put("", -2), found(-1)), done(drop(long), found(math.MinInt)),
	}, -1, entry("", -2), entry("a\x00", math.MaxInt))
}

func begin(c int, o api.Op) api.Event { return api.Event{Kind: api.EBegin, Client: c, Op: o} }

func end(c int) api.Event { return api.Event{Kind: api.EDone, Client: c} }

func at(c, i int, o api.Op) api.Done { return api.Done{Client: c, Begin: i, Op: o} }

// P17.2: which orders respect real time.
func TestOrder(t *testing.T) {
	a, b, c := get("a"), get("b"), get("c")
	h := []api.Event{begin(0, a), begin(1, b), end(0), begin(0, c), end(1)}
	first, second, third := at(0, 0, a), at(1, 1, b), at(0, 3, c)
	for i, l := range [][]api.Done{
		nil, {first}, {third}, {first, second, third}, {second, first, third}, {first, third, second}, {first, third},
	} {
		if !lin.Order(h, l) {
			t.Error(i, l)
		}
	}
	// The third one begins after the end of the first one.
	for i, l := range [][]api.Done{{third, first}, {third, second, first}, {second, third, first}, {third, first, second}} {
		if lin.Order(h, l) {
			t.Error(i, l)
		}
	}
	// Without an end, an element may stand anywhere in front.
	open := []api.Event{begin(0, a), begin(1, b), end(1), begin(1, c)}
	if !lin.Order(open, []api.Done{at(1, 1, b), at(1, 3, c), at(0, 0, a)}) || lin.Order(open, []api.Done{at(1, 3, c), at(1, 1, b)}) {
		t.Error("without an end")
	}
}

// P17.2: elements that are no operations of the history.
func TestOrderOfOthers(t *testing.T) {
	a := get("a")
	h := []api.Event{begin(0, a), end(0), begin(1, put("a", 1)), {Kind: 9, Client: 0, Op: a}}
	for i, l := range [][]api.Done{
		{at(0, 1, a)}, {at(0, 1, api.Op{})}, {at(0, 2, a)}, {at(1, 0, a)}, {at(0, 0, get("b"))}, {at(0, 3, a)}, {at(0, -1, a)}, {at(0, 4, a)},
		{at(0, math.MinInt, a)}, {at(0, math.MaxInt, a)}, {at(0, 0, a), at(0, 0, a)}, {at(1, 2, put("a", 2))}, {at(0, 0, api.Op{Kind: api.OGet, Term: "a", To: "x"})},
	} {
		if lin.Order(h, l) {
			t.Error(i, l)
		}
	}
	if lin.Order(nil, []api.Done{{}}) || !lin.Order(nil, nil) {
		t.Error("of nothing")
	}
}

// history returns one in which a scan of client 0 goes on while client 1 puts
// a 1, then a 2, drops it, and puts b 3; before it, x 7 and z 9 are put.
func history(o api.Op, list ...api.Entry) ([]api.Event, []api.Done) {
	ops := []api.Op{put("x", 7), put("z", 9), put("a", 1), put("a", 2), drop("a"), put("b", 3)}
	answers := []api.Answer{{}, {}, {}, found(1), found(2), {}}
	var h []api.Event
	var l []api.Done
	for i, p := range ops {
		if i == 2 {
			h = append(h, begin(0, o))
		}
		l = append(l, api.Done{Client: 1, Begin: len(h), Op: p, Answer: answers[i]})
		h = append(h, begin(1, p), end(1))
	}
	h = append(h, end(0))
	return h, append(l, api.Done{Client: 0, Begin: 4, Op: o, Answer: api.Answer{List: list}})
}

// P17.3: which scans fit.
func TestScans(t *testing.T) {
	x, z := entry("x", 7), entry("z", 9)
	for i, c := range []struct {
		op   api.Op
		list []api.Entry
		fits bool
	}{
		{scan("", "", 16), []api.Entry{x, z}, true},
		{scan("", "", 16), []api.Entry{entry("a", 1), x, z}, true},
		{scan("", "", 16), []api.Entry{entry("a", 2), entry("b", 3), x, z}, true},
		{scan("", "", 16), []api.Entry{entry("a", 3), x, z}, false}, // never had this value
		{scan("", "", 16), []api.Entry{entry("b", 1), x, z}, false},
		{scan("", "", 16), []api.Entry{entry("c", 1), x, z}, false}, // never was there
		{scan("", "", 16), []api.Entry{x}, false},                   // z was there throughout
		{scan("", "", 16), []api.Entry{z}, false},
		{scan("", "", 16), nil, false},
		{scan("", "", 16), []api.Entry{z, x}, false},
		{scan("", "", 16), []api.Entry{x, x, z}, false},
		{scan("", "", 1), []api.Entry{x}, true},
		{scan("", "", 1), []api.Entry{z}, false}, // x is less
		{scan("", "", 1), []api.Entry{x, z}, false},
		{scan("", "", 2), []api.Entry{entry("a", 1), x}, true},
		{scan("", "", 0), nil, false},
		{scan("", "", -1), nil, false},
		{scan("y", "", 16), []api.Entry{z}, true},
		{scan("y", "", 16), []api.Entry{x, z}, false},
		{scan("z\x00", "", 16), nil, true},
		{scan("", "z", 16), []api.Entry{x}, true},
		{scan("", "z", 16), []api.Entry{x, z}, false},
		{scan("", "x", 16), nil, true},
		{scan("z", "x", 16), nil, true},
	} {
		h, l := history(c.op, c.list...)
		want := -1
		if !c.fits {
			want = 6
		}
		if got := lin.Scans(h, l); got != want {
			t.Error(i, c, got)
		}
	}
}

// P17.3: what is done before a scan begins, or begins after it ended, does not
// count for it.
func TestScansBounds(t *testing.T) {
	o := scan("", "", 16)
	// a is put and dropped before the scan, b during it, c after it.
	h := []api.Event{
		begin(1, put("a", 1)), end(1), begin(1, drop("a")), end(1), begin(0, o), begin(1, put("b", 2)), end(1), end(0), begin(1, put("c", 3)), end(1),
	}
	l := []api.Done{at(1, 0, put("a", 1)), at(1, 2, drop("a")), at(0, 4, o), at(1, 5, put("b", 2)), at(1, 8, put("c", 3))}
	l[1].Answer = found(1)
	for i, c := range []struct {
		list []api.Entry
		want int
	}{
		{nil, -1}, {[]api.Entry{entry("b", 2)}, -1}, {[]api.Entry{entry("a", 1)}, 2}, {[]api.Entry{entry("c", 3)}, 2},
		{[]api.Entry{entry("b", 2), entry("c", 3)}, 2},
	} {
		l[2].Answer.List = c.list
		if got := lin.Scans(h, l); got != c.want {
			t.Error(i, got)
		}
	}
	// The scan counts from when it begins: b is there throughout the later one.
	late := scan("b", "", 1)
	h = append(h, begin(0, late), end(0))
	l[2].Answer.List = nil
	l = append(l, at(0, 10, late))
	if got := lin.Scans(h, l); got != 5 {
		t.Error(got)
	}
	// The first misfit in the list counts, whichever begins first.
	l[2].Answer.List = []api.Entry{entry("x", 1)}
	if got := lin.Scans(h, l); got != 2 {
		t.Error(got)
	}
	l = []api.Done{l[5], l[2]}
	l[0].Answer.List = []api.Entry{entry("x", 1)}
	if got := lin.Scans(h, l); got != 0 {
		t.Error(got)
	}
	if got := lin.Scans(h, l[1:]); got != 0 {
		t.Error(got)
	}
	if got := lin.Scans(h, []api.Done{l[1], l[0]}); got != 0 {
		t.Error(got)
	}
}

// P17.3: begins that are no EBegin: an end is after a begin, never at it.
func TestScansOddBegins(t *testing.T) {
	o := scan("", "", 16)
	h := []api.Event{begin(0, o), end(1), end(0), end(1)}
	wrongList := api.Answer{List: []api.Entry{entry("x", 1)}}
	for first, want := range map[int]int{-1: 0, 0: 0, 1: 0, 2: -1, 3: -1, 9: -1, math.MinInt: 0, math.MaxInt: -1} {
		if got := lin.Scans(h, []api.Done{{Begin: first, Op: o, Answer: wrongList}}); got != want {
			t.Error(first, got)
		}
	}
	// The put ends where the scan begins, so that the scan may not see it; the
	// one that begins where the scan ends is not seen.
	l := []api.Done{at(1, 0, put("a", 1)), at(0, 1, o), at(1, 2, put("b", 1))}
	for i, list := range [][]api.Entry{nil, {entry("a", 1)}, {entry("b", 1)}} {
		l[1].Answer.List = list
		if got := lin.Scans(h, l); got != []int{-1, -1, 1}[i] {
			t.Error(i, got)
		}
	}
}

// P17.3: what had no room changes nothing during a scan.
func TestScansAndFull(t *testing.T) {
	o := scan("", "", 16)
	full := api.Answer{Err: api.ErrFull}
	h := []api.Event{begin(1, put("a", 1)), end(1), begin(0, o), begin(1, put("b", 2)), end(1), begin(1, drop("a")), end(1), end(0)}
	l := []api.Done{at(1, 0, put("a", 1)), at(1, 3, put("b", 2)), at(1, 5, drop("a")), at(0, 2, o)}
	l[1].Answer, l[2].Answer = full, full
	for i, list := range [][]api.Entry{{entry("a", 1)}, nil, {entry("a", 1), entry("b", 2)}} {
		l[3].Answer.List = list
		if got := lin.Scans(h, l); got != []int{-1, 3, 3}[i] {
			t.Error(i, got)
		}
	}
}

// P17.3: scans with an error or without an end, and other kinds, are ignored.
func TestScansIgnored(t *testing.T) {
	h, l := history(scan("", "", 16))
	if lin.Scans(h[:len(h)-1], l) != -1 {
		t.Error("without an end")
	}
	l[6].Answer.Err = api.ErrGen
	if lin.Scans(h, l) != -1 {
		t.Error("with an error")
	}
	l[6].Answer.Err = api.OK
	if lin.Scans(h, l) != 6 {
		t.Error("without a reason")
	}
	l[6].Op.Kind = api.OTick
	if lin.Scans(h, l) != -1 || lin.Scans(nil, nil) != -1 {
		t.Error("no scan")
	}
}

// P17.3: behind a violation the entries stay as they are.
func TestScansBehindViolation(t *testing.T) {
	for at, want := range map[int]int{2: 6, 3: 6, 4: -1, 5: -1} {
		h, l := history(scan("", "", 16), entry("a", 2), entry("x", 7), entry("z", 9))
		l[at].Answer.Value = 77
		if got := lin.Scans(h, l); got != want {
			t.Error(at, got)
		}
	}
}

// slow is P17.3, word by word.
func slow(h []api.Event, l []api.Done) int {
	endOf := func(d api.Done) int {
		for i, e := range h {
			if i > d.Begin && e.Kind == api.EDone && e.Client == d.Client {
				return i
			}
		}
		return len(h)
	}
	for i, s := range l {
		if s.Op.Kind != api.OScan || s.Answer.Err != api.OK || endOf(s) == len(h) {
			continue
		}
		from, to := 0, 0
		for k, d := range l {
			if endOf(d) < s.Begin {
				from = k + 1
			}
			if d.Begin < endOf(s) {
				to = k + 1
			}
		}
		if !slowFits(s, l, from, max(from, to)) {
			return i
		}
	}
	return -1
}

func slowFits(s api.Done, l []api.Done, from, to int) bool {
	within := func(t string) bool { return t >= s.Op.Term && (s.Op.To == "" || t < s.Op.To) }
	list := s.Answer.List
	if len(list) > s.Op.Value {
		return false
	}
	ever, always := map[api.Entry]int{}, map[string]int{}
	for k := from; k <= to; k++ {
		entries, _ := lin.Replay(l[:k])
		for _, e := range entries {
			ever[e]++
			always[e.Term]++
		}
	}
	for i, e := range list {
		if !within(e.Term) || i > 0 && list[i-1].Term >= e.Term || ever[e] == 0 {
			return false
		}
	}
	for t, n := range always {
		told := slices.ContainsFunc(list, func(e api.Entry) bool { return e.Term == t })
		full := len(list) > 0 && len(list) == s.Op.Value && list[len(list)-1].Term < t
		if n == to-from+1 && within(t) && !told && !full {
			return false
		}
	}
	return true
}

// random returns a machine after random operations and picks.
func random(seed int64) *tree.Tree {
	r := rand.New(rand.NewSource(seed))
	c := config(1 + r.Intn(5))
	if r.Intn(3) == 0 {
		c.Slots = [api.Classes]int{6, 3, 1, 0, 1}
	}
	var ops [][]api.Op
	for range c.Clients {
		var l []api.Op
		for range 12 {
			term := strings.Repeat("a", r.Intn(3)) + string([]byte{byte('b' + r.Intn(4))}) + strings.Repeat("cd", r.Intn(2))
			l = append(l, []api.Op{
				get(term), put(term, r.Intn(5)), drop(term), scan(term, "", 1+r.Intn(3)), scan("", term, 16), {Kind: api.OTick}, put(term, r.Intn(5)),
			}[r.Intn(7)])
		}
		ops = append(ops, l)
	}
	x, _ := tree.New(c, ops...)
	for n := r.Intn(3000); n > 0 && !x.Over(); n-- {
		client := r.Intn(c.Clients)
		for range 1 + r.Intn(9) {
			x.Step(client)
		}
	}
	return x
}

// P17.4, T1, T3: what a machine does corresponds to one order.
func TestMachines(t *testing.T) {
	for seed := range int64(400) {
		x := random(seed)
		if !lin.Order(x.Events(), x.Dones()) {
			t.Fatal("Order before the end", seed)
		}
		for client := 0; !x.Over(); client++ {
			x.Step(client % x.Config().Clients)
		}
		h, l := x.Events(), x.Dones()
		if !lin.Order(h, l) || lin.Scans(h, l) != -1 {
			t.Fatal(seed, lin.Order(h, l), lin.Scans(h, l))
		}
		if _, at := lin.Replay(l); at != -1 {
			t.Fatal(seed, l[at])
		}
	}
}

// P17.3: Scans against its definition, on histories that were tampered with.
func TestScansAgainstDefinition(t *testing.T) {
	misfits := 0
	for seed := range int64(400) {
		x := random(seed)
		h, l := x.Events(), x.Dones()
		r := rand.New(rand.NewSource(seed))
		for range r.Intn(4) {
			if len(l) == 0 {
				continue
			}
			d := &l[r.Intn(len(l))]
			switch list := d.Answer.List; r.Intn(5) {
			case 0:
				d.Begin += r.Intn(9) - 4
			case 1:
				d.Answer.Value += r.Intn(2)
			case 2:
				if len(list) > 0 {
					d.Answer.List = slices.Delete(list, 0, 1)
				}
			case 3:
				if len(list) > 0 {
					list[r.Intn(len(list))].Value++
				}
			case 4:
				other := r.Intn(len(l))
				l[other], *d = *d, l[other]
			}
		}
		want := slow(h, l)
		if got := lin.Scans(h, l); got != want {
			t.Fatal(seed, got, want)
		}
		if want >= 0 {
			misfits++
		}
	}
	if misfits < 20 {
		t.Error("few misfits", misfits)
	}
}

// R2: arguments stay as they are.
func TestArgumentsStay(t *testing.T) {
	h, l := history(scan("", "", 16), entry("x", 7), entry("z", 9))
	h2, l2 := history(scan("", "", 16), entry("x", 7), entry("z", 9))
	entries, _ := lin.Replay(l)
	entries[0].Term = "?"
	lin.Scans(h, l)
	lin.Order(h, l)
	same := func(a, b api.Done) bool {
		return a.Begin == b.Begin && a.Op == b.Op && slices.Equal(a.Answer.List, b.Answer.List)
	}
	if !slices.EqualFunc(l, l2, same) || len(h) != len(h2) {
		t.Error(l)
	}
}
