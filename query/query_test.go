package query_test

import (
	"math/rand"
	"slices"
	"strings"
	"testing"

	"tendril/api"
	"tendril/query"
)

func parse(t *testing.T, s string) []api.Part {
	t.Helper()
	q, e := query.Parse(s)
	if e != api.OK {
		t.Fatalf("%q %d", s, e)
	}
	return q
}

func word(s string) api.Part { return api.Part{Kind: api.QTerm, Term: s} }

var (
	and = api.Part{Kind: api.QAnd}
	or  = api.Part{Kind: api.QOr}
	not = api.Part{Kind: api.QNot}
)

func TestExampleRuns(t *testing.T) {
	q := parse(t, "a !b | c")
	if s := query.Text(q); s != "((a&!b)|c)" {
		t.Error(s)
	}
	for _, s := range []string{"a &", ")"} {
		if q, e := query.Parse(s); q != nil || e != api.ErrQuery {
			t.Error(s, q, e)
		}
	}
	if l := query.Eval(q, [][]int{{1, 2}, {2}, {5}}, []int{1, 2, 3, 5}); !slices.Equal(l, []int{1, 5}) {
		t.Error(l)
	}
}

// wrong returns parts that are no query.
func wrong() [][]api.Part {
	long := slices.Repeat([]api.Part{not}, 64)
	return [][]api.Part{
		nil, {}, {and}, {or}, {not}, {not, word("a")}, {word("a"), and}, {word("a"), or}, {and, word("a"), word("b")},
		{word("a"), word("b")}, {word("a"), word("b"), not}, {word("a"), and, word("b")}, {word("a"), not, or},
		{word("")}, {word("A")}, {word("a b")}, {word("\xff")}, {word("ab-")}, {word(strings.Repeat("a", 13))},
		{{}}, {{Kind: 5}}, {{Kind: -1}}, {word("a"), {}}, {word("a"), {Kind: api.QNot, Term: "a"}},
		{word("a"), word("b"), {Kind: api.QAnd, Term: "a"}}, {word("a"), word("b"), {Kind: api.QOr, Term: "x"}},
		append([]api.Part{word("a")}, long...),
	}
}

// P23.1: which queries are right.
func TestRight(t *testing.T) {
	for i, q := range wrong() {
		if query.Right(q) || query.Text(q) != "" || query.Eval(q, [][]int{{1}, {1}}, []int{1}) != nil {
			t.Error(i, q)
		}
	}
	for _, q := range [][]api.Part{
		{word("a")}, {word("0z9")}, {word(strings.Repeat("a", 12))}, {word("a"), not}, {word("a"), not, not}, {word("a"), word("b"), and},
		{word("a"), word("b"), word("c"), or, and}, append([]api.Part{word("a")}, slices.Repeat([]api.Part{not}, 63)...),
	} {
		if !query.Right(q) {
			t.Error(q)
		}
	}
}

// P23.2, P23.3: what texts stand for.
func TestParse(t *testing.T) {
	for s, want := range map[string]string{
		"a":                "a",
		" a ":              "a",
		"A1":               "a1",
		"a b":              "(a&b)",
		"a&b":              "(a&b)",
		"a & b c":          "((a&b)&c)",
		"a|b":              "(a|b)",
		"a|b|c":            "((a|b)|c)",
		"a b|c d":          "((a&b)|(c&d))",
		"a (b|c)":          "(a&(b|c))",
		"a(b)c":            "((a&b)&c)",
		"(a|b)(c|d)":       "((a|b)&(c|d))",
		"!a":               "!a",
		"! a":              "!a",
		"!!a":              "!!a",
		"!a b":             "(!a&b)",
		"!(a b)":           "!(a&b)",
		"a!b":              "(a&!b)",
		"a&!b":             "(a&!b)",
		"((a))":            "a",
		"abcdefghijkl":     "abcdefghijkl",
		"ABCDEFGHIJKL|0  ": "(abcdefghijkl|0)",
	} {
		q := parse(t, s)
		if text := query.Text(q); text != want || !query.Right(q) {
			t.Errorf("%q %q", s, text)
		}
	}
	if q := parse(t, "a !b|c"); !slices.Equal(q, []api.Part{word("a"), word("b"), not, and, word("c"), or}) {
		t.Error(q)
	}
	if q := parse(t, "a|b c"); !slices.Equal(q, []api.Part{word("a"), word("b"), word("c"), and, or}) {
		t.Error(q)
	}
}

// P23.2: the errors of texts.
func TestParseErrors(t *testing.T) {
	long := strings.Repeat("x", 13)
	for s, want := range map[string]api.Errno{
		"":                       api.ErrQuery,
		"  ":                     api.ErrQuery,
		"(":                      api.ErrQuery,
		"()":                     api.ErrQuery,
		"(a":                     api.ErrQuery,
		"(a|":                    api.ErrQuery,
		"a)":                     api.ErrQuery,
		"(a))":                   api.ErrQuery,
		"!":                      api.ErrQuery,
		"!)":                     api.ErrQuery,
		"!&a":                    api.ErrQuery,
		"&":                      api.ErrQuery,
		"&a":                     api.ErrQuery,
		"a&&b":                   api.ErrQuery,
		"a&|b":                   api.ErrQuery,
		"a||b":                   api.ErrQuery,
		"|a":                     api.ErrQuery,
		"a|":                     api.ErrQuery,
		"a&":                     api.ErrQuery,
		"a\tb":                   api.ErrQuery,
		"a\x00":                  api.ErrQuery,
		"\xc3\xa4":               api.ErrQuery,
		"a - b":                  api.ErrQuery,
		long:                     api.ErrTerm,
		"a " + long + ")":        api.ErrTerm,
		") " + long:              api.ErrQuery,
		strings.Repeat("x", 512): api.ErrTerm,
		strings.Repeat("x", 513): api.ErrLong,
		strings.Repeat(" ", 512): api.ErrQuery,
		strings.Repeat(" ", 513): api.ErrLong,
	} {
		if q, e := query.Parse(s); q != nil || e != want {
			t.Errorf("%q %v %d", s, q, e)
		}
	}
}

// P23.2: at most so many parts.
func TestManyParts(t *testing.T) {
	long := strings.Repeat("x", 13)
	a := func(n int) string { return strings.Repeat("a ", n) }
	if q := parse(t, a(32)); len(q) != 63 {
		t.Error(len(q))
	}
	if q := parse(t, a(31)+"!a"); len(q) != 64 {
		t.Error(len(q))
	}
	if q := parse(t, strings.Repeat("a|", 31)+"!a"); len(q) != 64 {
		t.Error(len(q))
	}
	for s, want := range map[string]api.Errno{
		a(33):                    api.ErrLong,
		a(33) + ")":              api.ErrLong,
		a(32) + "!" + long:       api.ErrTerm,
		a(32) + ")":              api.ErrQuery,
		a(32) + "| )":            api.ErrQuery,
		a(32) + "|a":             api.ErrLong,
		a(31) + "!!a":            api.ErrLong,
		a(31) + "!a|" + long:     api.ErrTerm, // one part too many, too
		a(31) + "!a|a":           api.ErrLong,
		a(31) + "!a|)":           api.ErrQuery,
		a(31) + "(a(a(a(a" + "$": api.ErrLong,
	} {
		if q, e := query.Parse(s); q != nil || e != want {
			t.Errorf("%q %v %d", s, q, e)
		}
	}
}

// P23.2: a factor is nested at most so deep; one within no other one is one
// level deep.
func TestNesting(t *testing.T) {
	long := strings.Repeat("x", 13)
	open := func(n int) string { return strings.Repeat("(", n) }
	shut := func(n int) string { return strings.Repeat(")", n) }
	nots := func(n int) string { return strings.Repeat("!", n) }
	for _, c := range []struct {
		text  string
		want  api.Errno
		parts int
	}{
		{open(63) + "a" + shut(63), api.OK, 1},
		{open(63) + "a b" + shut(63) + "c", api.OK, 5},
		{open(63) + "a|b" + shut(63) + "|c", api.OK, 5},
		{open(64) + "a" + shut(64), api.ErrLong, 0},
		{"a" + open(64) + "a" + shut(64), api.ErrLong, 0},
		{open(65) + "a" + shut(65), api.ErrLong, 0},
		{open(256) + shut(256), api.ErrLong, 0},
		{" " + strings.Repeat("( ", 63) + "a" + shut(63), api.OK, 1},
		{strings.Repeat("( ", 64) + "a" + shut(64), api.ErrLong, 0},
		// whatever is there
		{open(64), api.ErrLong, 0},
		{open(64) + ")", api.ErrLong, 0},
		{open(64) + "?", api.ErrLong, 0},
		{open(64) + long, api.ErrLong, 0},
		{open(63), api.ErrQuery, 0},
		{open(63) + ")", api.ErrQuery, 0},
		{open(63) + "?", api.ErrQuery, 0},
		{open(63) + long, api.ErrTerm, 0},
		// the first error from left to right
		{")" + open(64), api.ErrQuery, 0},
		{long + open(64), api.ErrTerm, 0},
		{open(63) + "a" + open(1), api.ErrLong, 0},
		{open(63) + "a !", api.ErrLong, 0},
		{open(63) + "!" + long, api.ErrLong, 0},
		{open(62) + "!a" + shut(62), api.OK, 2},
		{open(62) + "a!a" + shut(62) + "(b)", api.OK, 6},
		{open(62) + "!!a" + shut(62), api.ErrLong, 0},
		// what was nested before does not count
		{open(63) + "a" + shut(63) + open(63) + "b" + shut(63), api.OK, 3},
		{open(63) + "a" + shut(63) + open(64) + "b" + shut(64), api.ErrLong, 0},
		{nots(63) + "a", api.OK, 64},
		{nots(63), api.ErrQuery, 0},
		{nots(63) + ")", api.ErrQuery, 0},
		{nots(63) + long, api.ErrTerm, 0},
		{nots(64) + "a", api.ErrLong, 0},
		{nots(64), api.ErrLong, 0},
		{nots(64) + ")", api.ErrLong, 0},
		{nots(64) + long, api.ErrLong, 0},
		{strings.Repeat("!(", 31) + "!a" + shut(31), api.OK, 33},
		{strings.Repeat("!(", 31) + "(a)" + shut(31), api.OK, 32},
		{strings.Repeat("!(", 32) + "a" + shut(32), api.ErrLong, 0},
	} {
		q, e := query.Parse(c.text)
		if e != c.want || len(q) != c.parts || (e == api.OK) != query.Right(q) {
			t.Errorf("%q %v %d", c.text, q, e)
		}
	}
}

// P23.3: the terms of any parts.
func TestTerms(t *testing.T) {
	if l := query.Terms(parse(t, "b a|!b c")); !slices.Equal(l, []string{"b", "a", "b", "c"}) {
		t.Error(l)
	}
	if l := query.Terms(nil); len(l) != 0 {
		t.Error(l)
	}
	if l := query.Terms([]api.Part{{Kind: 7, Term: "x"}, word("Y"), {Kind: api.QNot, Term: "z"}, word("")}); !slices.Equal(l, []string{"Y", ""}) {
		t.Error(l)
	}
}

// P23.4: sets that are missing, in disorder, or not within all.
func TestEval(t *testing.T) {
	for _, c := range []struct {
		text string
		sets [][]int
		all  []int
		want []int
	}{
		{"a", nil, []int{1, 2}, nil},
		{"!a", nil, []int{2, 1, 2}, []int{1, 2}},
		{"a", [][]int{{5, 3, 3, 1}, {2}}, []int{3, 1, 2, 1}, []int{1, 3}},
		{"a", [][]int{{-4, 9}}, []int{9, -4}, []int{-4, 9}},
		{"a|b", [][]int{{1}}, []int{1, 2}, []int{1}},
		{"a|b", [][]int{nil, {2}}, []int{1, 2}, []int{2}},
		{"a a", [][]int{{1, 2}, {2, 3}}, []int{1, 2, 3}, []int{2}},
		{"!(a|b)", [][]int{{1}, {2}}, []int{1, 2, 3}, []int{3}},
		{"a", [][]int{{1}}, nil, nil},
	} {
		if l := query.Eval(parse(t, c.text), c.sets, c.all); !slices.Equal(l, c.want) {
			t.Error(c, l)
		}
	}
}

// random returns a query of at most so many parts, and whether it holds for an
// id, given its sets.
func random(r *rand.Rand, most int, sets *[][]int) ([]api.Part, func(id int) bool) {
	switch kind := r.Intn(4); {
	case most < 3 || kind == 0:
		var set []int
		for range r.Intn(9) {
			set = append(set, r.Intn(12))
		}
		*sets = append(*sets, set)
		return []api.Part{word(string("abc"[r.Intn(3)]) + "1")}, func(id int) bool { return slices.Contains(set, id) }
	case kind == 1:
		q, f := random(r, most-1, sets)
		return append(q, not), func(id int) bool { return !f(id) }
	default:
		p, f := random(r, most/2, sets)
		q, g := random(r, most/2-1, sets)
		if kind == 2 {
			return slices.Concat(p, q, []api.Part{and}), func(id int) bool { return f(id) && g(id) }
		}
		return slices.Concat(p, q, []api.Part{or}), func(id int) bool { return f(id) || g(id) }
	}
}

// P23.4, P23.5: random queries, their values, and their texts.
func TestAgainstFunctions(t *testing.T) {
	r := rand.New(rand.NewSource(23))
	for range 3000 {
		var sets [][]int
		q, holds := random(r, 2+r.Intn(60), &sets)
		var all, want []int
		for range r.Intn(20) {
			all = append(all, r.Intn(12))
		}
		for id := range 12 {
			if slices.Contains(all, id) && holds(id) {
				want = append(want, id)
			}
		}
		if l := query.Eval(q, sets, all); !slices.Equal(l, want) {
			t.Fatal(query.Text(q), sets, all, l, want)
		}
		again, e := query.Parse(query.Text(q))
		if e == api.OK && !slices.Equal(again, q) || e != api.OK && e != api.ErrLong {
			t.Fatal(query.Text(q), e)
		}
	}
}

// P23.5: what is parsed is right, and its text is parsed to the same.
func TestRandomTexts(t *testing.T) {
	r := rand.New(rand.NewSource(24))
	parsed := 0
	for range 50000 {
		b := make([]byte, r.Intn(12))
		for i := range b {
			b[i] = "ab!()&| "[r.Intn(8)]
		}
		q, e := query.Parse(string(b))
		if e != api.OK {
			if q != nil || e != api.ErrQuery {
				t.Fatalf("%q %v %d", b, q, e)
			}
			continue
		}
		parsed++
		again, e := query.Parse(query.Text(q))
		if !query.Right(q) || e != api.OK || !slices.Equal(again, q) {
			t.Fatalf("%q %v %d", b, again, e)
		}
	}
	if parsed < 1000 {
		t.Error(parsed)
	}
}

// R2: arguments stay as they are.
func TestArgumentsStay(t *testing.T) {
	sets, all := [][]int{{3, 1, 2}, {2, 2}}, []int{3, 2, 1}
	q := parse(t, "a !b")
	l := query.Eval(q, sets, all)
	l[0] = 99
	if !slices.Equal(sets[0], []int{3, 1, 2}) || !slices.Equal(sets[1], []int{2, 2}) || !slices.Equal(all, []int{3, 2, 1}) || len(sets) != 2 {
		t.Error(sets, all)
	}
	query.Terms(q)[0] = "x"
	if q[0].Term != "a" {
		t.Error(q)
	}
}
