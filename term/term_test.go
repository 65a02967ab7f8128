package term_test

import (
	"math/rand"
	"strings"
	"testing"

	"tendril/term"
)

var (
	right = []string{"a", "ab", "\x01", "\xff", "a b", "äö", strings.Repeat("z", 12), strings.Repeat("\xff", 12)}
	wrong = []string{"", "\x00", "a\x00", "\x00a", "a\x00b", strings.Repeat("z", 13), strings.Repeat("z", 11) + "\x00", strings.Repeat("z", 5000)}
)

func TestExampleRuns(t *testing.T) {
	if k := term.Key("ab"); k != "ab\x00" {
		t.Errorf("%q", k)
	}
	if s, ok := term.Of("ab\x00"); s != "ab" || !ok {
		t.Errorf("%q %v", s, ok)
	}
	if k := term.Key(""); k != "" {
		t.Errorf("%q", k)
	}
	if n := term.Common("abc", "abd"); n != 2 {
		t.Error(n)
	}
	if term.Right(strings.Repeat("x", 13)) {
		t.Error("13 bytes")
	}
}

// P6.1: terms have 1 to 12 bytes, none of which is 0.
func TestRight(t *testing.T) {
	for _, s := range right {
		if !term.Right(s) || term.Key(s) != s+"\x00" {
			t.Errorf("%q %q", s, term.Key(s))
		}
	}
	for _, s := range wrong {
		if term.Right(s) || term.Key(s) != "" {
			t.Errorf("%q %q", s, term.Key(s))
		}
	}
}

// P6.1: Of returns a term for keys alone.
func TestOf(t *testing.T) {
	for _, s := range right {
		if got, ok := term.Of(s + "\x00"); got != s || !ok {
			t.Errorf("%q %q %v", s, got, ok)
		}
		if got, ok := term.Of(s); got != "" || ok {
			t.Errorf("%q %q %v", s, got, ok)
		}
		if got, ok := term.Of(s + "\x00\x00"); got != "" || ok {
			t.Errorf("%q %q %v", s, got, ok)
		}
	}
	for _, s := range wrong {
		if got, ok := term.Of(s + "\x00"); got != "" || ok {
			t.Errorf("%q %q %v", s, got, ok)
		}
	}
	if got, ok := term.Of(""); got != "" || ok {
		t.Errorf("%q %v", got, ok)
	}
}

// P6.2: how long the common prefix is.
func TestCommon(t *testing.T) {
	for _, c := range []struct {
		a, b string
		want int
	}{
		{"", "", 0}, {"", "a", 0}, {"a", "a", 1}, {"a", "b", 0}, {"ab", "abc", 2}, {"a\x00", "a\x00", 2},
		{"a\x00b", "a\x00c", 2}, {"\xc3\xa4", "\xc3\xb6", 1}, {"xa", "ya", 0},
	} {
		if n, m := term.Common(c.a, c.b), term.Common(c.b, c.a); n != c.want || m != c.want {
			t.Errorf("%q %q %d %d", c.a, c.b, n, m)
		}
	}
}

// P6.2: the smallest greater string.
func TestNext(t *testing.T) {
	for _, s := range []string{"", "a", "\xff", "\x00", strings.Repeat("z", 12)} {
		if n := term.Next(s); n != s+"\x00" || n <= s {
			t.Errorf("%q %q", s, n)
		}
	}
}

// P6.3: no key is a prefix of another one, and keys are ordered as terms are.
func TestKeyOrder(t *testing.T) {
	r := rand.New(rand.NewSource(6))
	random := func() string {
		b := make([]byte, 1+r.Intn(12))
		for i := range b {
			b[i] = byte(1 + r.Intn(2)*254*r.Intn(2))
		}
		return string(b)
	}
	for range 2000 {
		a, b := random(), random()
		if a == b {
			continue
		}
		k, l := term.Key(a), term.Key(b)
		if strings.HasPrefix(k, l) || strings.HasPrefix(l, k) || (a < b) != (k < l) {
			t.Fatalf("%q %q", a, b)
		}
	}
}
