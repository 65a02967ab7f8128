package script_test

import (
	"math"
	"math/rand"
	"reflect"
	"strings"
	"testing"

	"tendril/api"
	"tendril/check"
	"tendril/drain"
	"tendril/lin"
	"tendril/script"
	"tendril/tree"
)

func config(clients int) api.Config {
	return api.Config{Slots: [api.Classes]int{100, 40, 10, 3, 1}, Clients: clients, Limbo: 8, Tries: 3}
}

func runs(t *testing.T, c api.Config, b []byte) string {
	t.Helper()
	s, e := script.Run(c, b)
	if e != api.OK {
		t.Fatal(b, e)
	}
	return s
}

func TestExampleRuns(t *testing.T) {
	if a, b := script.Term(0), script.Term(27); a != "a" || b != "dcb" {
		t.Error(a, b)
	}
	want := "0 put a 1\n0 done\n0 get a\n0 done 1\ntree (0:[a<1:a>])\n"
	if s := runs(t, config(1), []byte{0, 0, 1, 0, 0, 0, 0}); s != want {
		t.Error(s)
	}
}

// P25.1: the terms of numbers.
func TestTerm(t *testing.T) {
	for n, want := range map[int]string{
		1: "b", 3: "d", 4: "ab", 5: "bb", 16: "aab", 64: "aaab", 255: "dddd", 256: "a", 257: "b", -1: "dddd", -256: "a", -255: "b",
		math.MaxInt: "dddd", math.MinInt: "a",
	} {
		if s := script.Term(n); s != want {
			t.Error(n, s)
		}
	}
	seen := map[string]int{}
	for n := range 256 {
		seen[script.Term(n)]++
	}
	if len(seen) != 256 {
		t.Error(len(seen))
	}
}

func put(t string, v int) api.Op { return api.Op{Kind: api.OPut, Term: t, Value: v} }

func scan(t string, v int) api.Op { return api.Op{Kind: api.OScan, Term: t, Value: v} }

func get(t string) api.Op { return api.Op{Kind: api.OGet, Term: t} }

// P25.1: the clients, operations and picks of bytes.
func TestDecode(t *testing.T) {
	for i, c := range []struct {
		b     []byte
		ops   [][]api.Op
		picks []int
	}{
		{nil, [][]api.Op{nil}, nil},
		{[]byte{0}, [][]api.Op{nil}, nil},
		{[]byte{8}, [][]api.Op{nil}, nil},
		{[]byte{255}, make([][]api.Op, 8), nil},
		{[]byte{1, 9}, make([][]api.Op, 2), nil},
		{[]byte{1, 9, 2}, make([][]api.Op, 2), []int{2}},
		{[]byte{1, 3, 0, 2}, [][]api.Op{nil, {get("c")}}, nil},
		{[]byte{1, 3, 0, 2, 7}, [][]api.Op{nil, {get("c")}}, nil},
		{[]byte{1, 3, 0, 2, 7, 5}, [][]api.Op{nil, {get("c")}}, []int{2}},
		{[]byte{1, 255, 0, 2, 7, 6}, make([][]api.Op, 2), []int{0, 2, 1, 0}},
		{[]byte{0, 0, 1, 5, 254, 1, 6, 255, 0, 1, 2}, [][]api.Op{{put("bb", 1), put("cb", 4)}}, []int{0, 1, 0}},
		{[]byte{0, 0, 2, 0, 0, 4, 9, 0, 255, 1}, [][]api.Op{{{Kind: api.ODrop, Term: "a"}, {Kind: api.OTick}, get("b")}}, nil},
		{[]byte{0, 0, 3, 0, 0, 8, 0, 0, 78, 0, 0, 83, 0, 0, 253, 0}, [][]api.Op{{scan("a", 1), scan("a", 2), scan("a", 16), scan("a", 1), scan("a", 3)}}, nil},
	} {
		ops, picks := script.Decode(c.b)
		if !reflect.DeepEqual(ops, c.ops) || !reflect.DeepEqual(picks, c.picks) {
			t.Error(i, ops, picks)
		}
	}
}

// P25.2: the lines of events.
func TestLine(t *testing.T) {
	list := []api.Entry{{Term: "a", Value: 1}, {Term: "", Value: -2}}
	for _, c := range []struct {
		e    api.Event
		want string
	}{
		{api.Event{}, ""},
		{api.Event{Kind: 3, Op: get("a")}, ""},
		{api.Event{Kind: -1}, ""},
		{api.Event{Kind: api.EBegin, Client: 3, Op: get("ab")}, "3 get ab"},
		{api.Event{Kind: api.EBegin, Op: put("ab", 12)}, "0 put ab 12"},
		{api.Event{Kind: api.EBegin, Op: put("", -1)}, "0 put  -1"},
		{api.Event{Kind: api.EBegin, Client: -7, Op: api.Op{Kind: api.ODrop, Term: "x", Value: 4}}, "-7 drop x"},
		{api.Event{Kind: api.EBegin, Op: api.Op{Kind: api.OScan, Term: "x", To: "y", Value: 4}}, "0 scan x 4"},
		{api.Event{Kind: api.EBegin, Op: api.Op{Kind: api.OTick, Term: "x"}}, "0 tick"},
		{api.Event{Kind: api.EBegin, Client: 5, Op: api.Op{Kind: 6, Term: "x"}}, "5"},
		{api.Event{Kind: api.EBegin, Client: 5}, "5"},
		{api.Event{Kind: api.EDone, Op: get("a")}, "0 done"},
		{api.Event{Kind: api.EDone, Answer: api.Answer{Value: 7}}, "0 done"},
		{api.Event{Kind: api.EDone, Answer: api.Answer{Found: true}}, "0 done 0"},
		{api.Event{Kind: api.EDone, Client: math.MaxInt, Answer: api.Answer{Found: true, Value: -5}}, "9223372036854775807 done -5"},
		{api.Event{Kind: api.EDone, Answer: api.Answer{List: list}}, "0 done a=1 =-2"},
		{api.Event{Kind: api.EDone, Answer: api.Answer{Found: true, Value: 3, List: list}}, "0 done 3 a=1 =-2"},
		{api.Event{Kind: api.EDone, Answer: api.Answer{Err: api.ErrFull, Found: true, Value: 3, List: list}}, "0 done error 2"},
		{api.Event{Kind: api.EDone, Answer: api.Answer{Err: -4}}, "0 done error -4"},
	} {
		if s := script.Line(c.e); s != c.want {
			t.Errorf("%+v %q", c.e, s)
		}
	}
}

// P25.3: runs of several clients.
func TestRun(t *testing.T) {
	if s := runs(t, config(1), nil); s != "tree (0:)\n" {
		t.Error(s)
	}
	// Client 1 goes first as long as it is picked.
	b := []byte{1, 0, 1, 0, 1, 1, 1, 0, 3, 0, 1, 4, 0, 255, 1, 1, 1, 1, 1, 1, 1, 1}
	want := "1 put b 4\n1 done\n0 put a 1\n1 tick\n1 done\n0 done\n0 scan a 1\n0 done a=1\ntree (0:[a<1:a>][b<1:b>])\n"
	if s := runs(t, config(2), b); s != want {
		t.Error(s)
	}
	for _, c := range []struct {
		config api.Config
		b      []byte
	}{{api.Config{}, nil}, {config(1), []byte{1}}, {config(7), []byte{7}}, {config(9), nil}} {
		if s, e := script.Run(c.config, c.b); s != "" || e != api.ErrArg {
			t.Error(c, s, e)
		}
	}
}

// P25.4, T1 to T6: any bytes are a script, and what happens is right.
func TestAnyBytes(t *testing.T) {
	r := rand.New(rand.NewSource(25))
	for range 1500 {
		b := make([]byte, r.Intn(400))
		for i := range b {
			b[i] = byte(r.Intn(256))
			if i%3 == 0 && r.Intn(2) == 0 {
				b[i] = byte(r.Intn(8))
			}
		}
		if end := 1 + 3*r.Intn(40); end < len(b) {
			b[end] = 255
		}
		c := config(8)
		c.Tries = 1 + r.Intn(4)
		if r.Intn(3) == 0 {
			c.Slots = [api.Classes]int{5 + r.Intn(9), 2 + r.Intn(4), r.Intn(3), 0, 1}
		}
		s := runs(t, c, b)
		ops, picks := script.Decode(b)
		x, e := tree.New(c, ops...)
		if e != api.OK {
			t.Fatal(b, e)
		}
		x.Play(picks...)
		drain.Run(x, drain.Bound(c, ops...))
		h, l := x.Events(), x.Dones()
		entries, at := lin.Replay(l)
		if !x.Over() || at != -1 || !lin.Order(h, l) || lin.Scans(h, l) != -1 || x.Faults() != 0 {
			t.Fatal(b, at, lin.Order(h, l), lin.Scans(h, l), x.Faults())
		}
		look := check.At(x)
		if !look.Fine || len(look.Entries) != len(entries) || !strings.HasSuffix(s, "tree "+look.Text+"\n") || strings.Count(s, "\n") != len(h)+1 {
			t.Fatal(b, look, s)
		}
		if !drain.Settle(x) || !check.Clean(x) {
			t.Fatal(b, "not clean")
		}
	}
}

// T6: the same script has the same result, and its bytes stay as they are.
func TestSameResult(t *testing.T) {
	b := []byte("any bytes are a script, whatever they say to one who reads them")
	if runs(t, config(8), b) != runs(t, config(8), b) || string(b[:9]) != "any bytes" {
		t.Error("another result")
	}
}
