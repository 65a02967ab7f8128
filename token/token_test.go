package token_test

import (
	"math/rand"
	"slices"
	"strings"
	"testing"

	"tendril/api"
	"tendril/term"
	"tendril/token"
)

func terms(t *testing.T, s string) []string {
	t.Helper()
	l, e := token.Terms(s)
	if e != api.OK {
		t.Fatalf("%q %d", s, e)
	}
	return l
}

func TestExampleRun(t *testing.T) {
	if l := terms(t, "To be, or not TO be 2"); !slices.Equal(l, []string{"2", "be", "not", "or", "to"}) {
		t.Error(l)
	}
}

// P22.1: all bytes.
func TestLetter(t *testing.T) {
	from := "abcdefghijklmnopqrstuvwxyz0123456789ABCDEFGHIJKLMNOPQRSTUVWXYZ"
	to := "abcdefghijklmnopqrstuvwxyz0123456789abcdefghijklmnopqrstuvwxyz"
	for c := range 256 {
		want := byte(0)
		if i := strings.IndexByte(from, byte(c)); i >= 0 {
			want = to[i]
		}
		if got := token.Letter(byte(c)); got != want {
			t.Errorf("%d %q", c, got)
		}
	}
}

// P22.2: the words of texts.
func TestTerms(t *testing.T) {
	for s, want := range map[string]string{
		"":                            "",
		" .,\x00\xff":                 "",
		"a":                           "a",
		"b a B A":                     "a b",
		"a-b_c":                       "a b c",
		"\xc3\xa4b\xc3":               "b",
		"ABCDEFGHIJKLM":               "abcdefghijkl",
		"abcdefghijklm abcdefghijkl2": "abcdefghijkl",
		"abcdefghijkl":                "abcdefghijkl",
		"0\x009 z9Z":                  "0 9 z9z",
		"a\na\ta":                     "a",
	} {
		if l := terms(t, s); strings.Join(l, " ") != want {
			t.Errorf("%q %q", s, l)
		}
	}
}

// P22.2: how long a text may be.
func TestLong(t *testing.T) {
	if l := terms(t, strings.Repeat("x", 512)); !slices.Equal(l, []string{"xxxxxxxxxxxx"}) {
		t.Error(l)
	}
	if l := terms(t, strings.Repeat("x ", 256)); !slices.Equal(l, []string{"x"}) {
		t.Error(l)
	}
	for _, s := range []string{strings.Repeat("x", 513), strings.Repeat(" ", 513), strings.Repeat("x", 100000)} {
		if l, e := token.Terms(s); l != nil || e != api.ErrLong {
			t.Error(len(s), l, e)
		}
	}
}

// P22.3: terms are right, and those of two texts are those of both.
func TestTwoTexts(t *testing.T) {
	r := rand.New(rand.NewSource(22))
	random := func() string {
		b := make([]byte, r.Intn(200))
		for i := range b {
			b[i] = "abcdefgHIJ01 ,.\x00"[r.Intn(16)]
			if r.Intn(9) == 0 {
				b[i] = byte(r.Intn(256))
			}
		}
		return string(b)
	}
	for range 2000 {
		a, b := random(), random()
		both := append(terms(t, a), terms(t, b)...)
		slices.Sort(both)
		both = slices.Compact(both)
		if l := terms(t, a+" "+b); !slices.Equal(l, both) {
			t.Fatalf("%q %q %q", a, b, l)
		}
		for _, s := range both {
			if !term.Right(s) {
				t.Fatalf("%q", s)
			}
		}
	}
}
