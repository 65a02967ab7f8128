package writer

import (
	"tendril/api"
	"tendril/node"
	"tendril/word"
)

// Place is a node as it was loaded, and the byte by which the key goes on.
type Place struct {
	Ref  int
	Node api.Node
	Byte byte
}

// Lock returns the access that locks the node, if it is as it was loaded.
func (p Place) Lock() api.Access {
	n := p.Node
	n.Word, _ = word.Lock(n.Word)
	return p.swap(n)
}

// Change returns the access that replaces the node by one with other children,
// if it is as it was loaded.
func (p Place) Change(n api.Node) api.Access {
	n.Word = word.Unlock(p.Node.Word)
	return p.swap(n)
}

// Unlock returns the access that unlocks the locked node as it was loaded.
func (p Place) Unlock() api.Access {
	n := p.Node
	n.Word = word.Unlock(n.Word)
	return p.store(n)
}

// Publish returns the access that unlocks the locked node with another child.
func (p Place) Publish(kid int) api.Access {
	n, _ := node.With(p.Node, p.Byte, kid)
	n.Word = word.Unlock(p.Node.Word)
	return p.store(n)
}

// Kill returns the access after which the locked node is dead.
func (p Place) Kill() api.Access {
	n := p.Node
	n.Word = word.Kill(n.Word)
	return p.store(n)
}

func (p Place) swap(n api.Node) api.Access {
	return api.Access{Kind: api.ASwap, Ref: p.Ref, Was: p.Node.Word, Words: node.Encode(n)}
}

func (p Place) store(n api.Node) api.Access {
	return api.Access{Kind: api.AStore, Ref: p.Ref, Words: node.Encode(n)}
}
