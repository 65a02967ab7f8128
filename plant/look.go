package plant

import (
	"tendril/api"
	"tendril/mem"
	"tendril/node"
	"tendril/word"
)

// List returns entries with the given terms and the values 1, 2, ..
func List(terms ...string) []api.Entry {
	var l []api.Entry
	for i, t := range terms {
		l = append(l, api.Entry{Term: t, Value: i + 1})
	}
	return l
}

// Load returns the access that loads a slot.
func Load(ref int) api.Access { return api.Access{Kind: api.ALoad, Ref: ref} }

// At returns the node of a ref.
func At(m *mem.Mem, ref int) api.Node {
	n, _ := node.Decode(m.Do(0, Load(ref)).Words)
	return n
}

// Child returns the child of the node of a ref for b.
func Child(m *mem.Mem, ref int, b byte) int {
	kid, _ := node.Find(At(m, ref), b)
	return kid
}

// Rewrite changes the first word of a slot.
func Rewrite(m *mem.Mem, ref int, f func(uint64) uint64) {
	w := m.Do(0, Load(ref)).Words
	w[0] = f(w[0])
	m.Do(0, api.Access{Kind: api.AStore, Ref: ref, Words: w})
}

// Lock returns a free word locked.
func Lock(w uint64) uint64 {
	w, _ = word.Lock(w)
	return w
}

// Slots returns how many slots the part of a tree has that begins at a ref.
func Slots(m *mem.Mem, ref int) int {
	n := 1
	for _, kid := range At(m, ref).Kids {
		n += Slots(m, kid)
	}
	return n
}

// Collect lets the epoch advance, and frees what so many idle clients retired.
func Collect(m *mem.Mem, clients int) {
	for range 2 {
		m.Do(0, api.Access{Kind: api.AAdvance, N: m.Now()})
	}
	for c := range clients {
		for m.Do(c, api.Access{Kind: api.ACollect}).Ok {
		}
	}
}

// Until performs at most so many accesses of p until it wants one of a kind,
// and reports whether it does.
func Until(m *mem.Mem, client int, p Program, kind, most int) ([]api.Access, bool) {
	var l []api.Access
	for range most {
		if a, ok := p.Next(); ok && a.Kind == kind {
			return l, true
		}
		a, _ := Step(m, client, p)
		l = append(l, a)
	}
	return l, false
}
