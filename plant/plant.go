// Package plant is for tests: it stores trees in a memory without the programs
// that are tested, and plays programs on it.
package plant

import (
	"strconv"

	"tendril/api"
	"tendril/mem"
	"tendril/node"
	"tendril/term"
	"tendril/word"
)

// Program is what the programs of clients have in common.
type Program interface {
	Next() (api.Access, bool)
	Got(r api.Result)
	Took() bool
	Answer() (api.Answer, bool)
}

// Tree stores the tree of ascending entries in an empty memory. It reports
// whether there was room.
func Tree(m *mem.Mem, l []api.Entry) bool {
	root := api.Node{Kind: api.C256}
	ok := hang(m, &root, l, 0)
	r := m.Do(0, api.Access{Kind: api.AStore, Ref: m.Root(), Words: node.Encode(root)})
	return ok && r.Err == api.OK
}

// hang adds to n the children for entries whose keys go on at position at.
func hang(m *mem.Mem, n *api.Node, l []api.Entry, at int) bool {
	for len(l) > 0 {
		b := term.Key(l[0].Term)[at]
		group := 1
		for group < len(l) && term.Key(l[group].Term)[at] == b {
			group++
		}
		kid, ok := subtree(m, l[:group], at+1)
		if !ok {
			return false
		}
		n.Keys, n.Kids = append(n.Keys, b), append(n.Kids, kid)
		l = l[group:]
	}
	return true
}

// subtree stores the leaf or node for entries from position at on.
func subtree(m *mem.Mem, l []api.Entry, at int) (int, bool) {
	first, last := term.Key(l[0].Term), term.Key(l[len(l)-1].Term)
	if len(l) == 1 {
		return alloc(m, api.CLeaf, node.EncodeLeaf(api.Leaf{Key: first, Value: l[0].Value}))
	}
	n := api.Node{Prefix: first[at : at+term.Common(first[at:], last[at:])]}
	if !hang(m, &n, l, at+len(n.Prefix)) {
		return 0, false
	}
	n.Kind = api.C4
	for len(n.Keys) > node.High(n.Kind) {
		n.Kind++
	}
	return alloc(m, n.Kind, node.Encode(n))
}

func alloc(m *mem.Mem, class int, words []uint64) (int, bool) {
	r := m.Do(0, api.Access{Kind: api.AAlloc, Class: class, Words: words})
	return r.N, r.Err == api.OK
}

// Step performs the access that p wants, and passes its result to p. It
// returns the access, and false if p is completed.
func Step(m *mem.Mem, client int, p Program) (api.Access, bool) {
	a, ok := p.Next()
	if ok {
		p.Got(m.Do(client, a))
	}
	return a, ok
}

// Finish performs at most so many accesses of p. It returns them, and at which
// of them the operation took effect, or -1.
func Finish(m *mem.Mem, client int, p Program, most int) ([]api.Access, int) {
	var l []api.Access
	took := -1
	for range most {
		a, ok := Step(m, client, p)
		if !ok {
			break
		}
		if p.Took() {
			took = len(l)
		}
		l = append(l, a)
	}
	return l, took
}

// Kinds returns the kinds of accesses.
func Kinds(l []api.Access) []int {
	var kinds []int
	for _, a := range l {
		kinds = append(kinds, a.Kind)
	}
	return kinds
}

// Read returns the entries of the tree in a memory, and its text as package
// shape tells it, of what is stored. What is locked, dead or not to be read
// shows as a question mark.
func Read(m *mem.Mem) ([]api.Entry, string) {
	var l []api.Entry
	text := read(m, m.Root(), &l)
	return l, text
}

func read(m *mem.Mem, ref int, l *[]api.Entry) string {
	words := m.Do(0, api.Access{Kind: api.ALoad, Ref: ref}).Words
	if leaf, ok := node.DecodeLeaf(words); ok {
		t, _ := term.Of(leaf.Key)
		*l = append(*l, api.Entry{Term: t, Value: leaf.Value})
		return "<" + strconv.Itoa(len(t)) + ":" + t + ">"
	}
	n, ok := node.Decode(words)
	if !ok || !word.Free(n.Word) {
		return "?"
	}
	text := "(" + strconv.Itoa(len(n.Prefix)) + ":" + n.Prefix
	for i, kid := range n.Kids {
		text += "[" + string(n.Keys[i:i+1]) + read(m, kid, l) + "]"
	}
	return text + ")"
}
