package put

import (
	"tendril/api"
	"tendril/node"
	"tendril/term"
	"tendril/writer"
)

// hang plans the leaf as a new child.
func (p *Put) hang() writer.Plan {
	return writer.Plan{
		Make:   []func([]int) (int, []uint64){p.makeLeaf},
		Change: p.with,
	}
}

// replaceLeaf plans the leaf in place of an older one of the same key.
func (p *Put) replaceLeaf(was int) writer.Plan {
	plan := p.hang()
	plan.Old = []int{p.end.Fork.Kid}
	plan.Answer = api.Answer{Found: true, Value: was}
	return plan
}

// forkLeaf plans a node with two children in place of a leaf of another key.
func (p *Put) forkLeaf(otherKey string) writer.Plan {
	own, other := p.leaf.Key[p.below():], otherKey[p.below():]
	common := term.Common(own, other)
	makeFork := func(slots []int) (int, []uint64) {
		return fork(own[:common], other[common], p.end.Fork.Kid, own[common], slots[0])
	}
	return writer.Plan{
		Make:   []func([]int) (int, []uint64){p.makeLeaf, makeFork},
		Change: p.with,
	}
}

// grow plans a node of the next kind in place of one without room.
func (p *Put) grow() writer.Plan {
	n := p.end.Node.Node
	makeLarger := func(slots []int) (int, []uint64) {
		larger, _ := node.Turn(n, n.Kind+1)
		larger, _ = node.With(larger, p.end.Fork.Byte, slots[0])
		return n.Kind + 1, node.Encode(larger)
	}
	return writer.Plan{
		Make: []func([]int) (int, []uint64){p.makeLeaf, makeLarger},
		Old:  []int{p.end.Node.Ref},
	}
}

// splitPrefix plans a node with two children in place of one whose prefix the
// key leaves: the leaf, and a copy of the node with what is left of its prefix.
func (p *Put) splitPrefix() writer.Plan {
	n, f := p.end.Node.Node, p.end.Fork
	makeRest := func([]int) (int, []uint64) {
		rest, _ := node.Turn(n, n.Kind)
		rest.Prefix = n.Prefix[f.Common+1:]
		return n.Kind, node.Encode(rest)
	}
	makeFork := func(slots []int) (int, []uint64) {
		return fork(n.Prefix[:f.Common], n.Prefix[f.Common], slots[1], f.Byte, slots[0])
	}
	return writer.Plan{
		Make: []func([]int) (int, []uint64){p.makeLeaf, makeRest, makeFork},
		Old:  []int{p.end.Node.Ref},
	}
}

func (p *Put) makeLeaf([]int) (int, []uint64) { return api.CLeaf, node.EncodeLeaf(p.leaf) }

// with returns the node with another child for the byte of the key.
func (p *Put) with(kid int) api.Node {
	n, _ := node.With(p.end.Node.Node, p.end.Fork.Byte, kid)
	return n
}

// fork returns the words of a node with two children.
func fork(prefix string, b byte, kid int, otherByte byte, other int) (int, []uint64) {
	n := api.Node{Kind: api.C4, Prefix: prefix}
	n, _ = node.With(n, b, kid)
	n, _ = node.With(n, otherByte, other)
	return api.C4, node.Encode(n)
}

// below returns the position of the key below the node.
func (p *Put) below() int { return p.end.Position + p.end.Fork.Common + 1 }

// apart reports whether both keys have a byte from position at on, and there a
// byte at which they differ, as all keys below one node do.
func apart(a, b string, at int) bool {
	if len(a) <= at || len(b) <= at {
		return false
	}
	return at+term.Common(a[at:], b[at:]) < min(len(a), len(b))
}
