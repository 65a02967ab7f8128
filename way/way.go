// Package way is how the programs of clients come from the root to the place of
// a key.
package way

import (
	"tendril/api"
	"tendril/node"
	"tendril/term"
)

// Fork is how a key goes on at a node.
type Fork struct {
	Common int  // so much of the node's prefix the key shares
	Ends   bool // the key ends there: nothing in a tree is found like this
	Byte   byte // the byte by which the key goes on after Common
	Kid    int  // the child for Byte
	Has    bool // whether there is such a child
}

// At returns how the key goes on at n from a position on.
func At(n api.Node, key string, position int) Fork {
	f := Fork{Common: term.Common(n.Prefix, key[position:])}
	at := position + f.Common
	if at == len(key) {
		f.Ends = true
		return f
	}
	f.Byte = key[at]
	if f.Common == len(n.Prefix) {
		f.Kid, f.Has = node.Find(n, f.Byte)
	}
	return f
}
