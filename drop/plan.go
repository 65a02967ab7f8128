package drop

import (
	"tendril/api"
	"tendril/node"
	"tendril/word"
	"tendril/writer"
)

// remove plans what becomes of the node without the leaf.
func (d *Drop) remove() {
	n := d.end.Node.Node
	less, _ := node.Without(n, d.end.Fork.Byte)
	switch others := len(less.Kids); {
	case d.end.IsRoot || others >= node.Low(n.Kind):
		d.carry(d.change(less))
	case others >= 2:
		d.carry(d.shrink(less))
	case others == 1:
		d.liftChild(less.Kids[0])
	default:
		d.finish(api.Answer{Err: api.ErrForm}) // No tree has such a node.
	}
}

// liftChild replaces the node by its other child.
func (d *Drop) liftChild(kid int) {
	if _, _, leaf, _ := word.Parts(kid); !leaf {
		d.load(kid, (*Drop).atChild)
		return
	}
	d.carry(writer.Plan{Kid: kid, Old: []int{d.end.Node.Ref, d.leaf()}})
}

// change plans the node without the leaf.
func (d *Drop) change(less api.Node) writer.Plan {
	return writer.Plan{
		Change: func(int) api.Node { return less },
		Old:    []int{d.leaf()},
	}
}

// shrink plans a node of the kind one smaller.
func (d *Drop) shrink(less api.Node) writer.Plan {
	smaller, _ := node.Turn(less, less.Kind-1)
	return writer.Plan{
		Make: made(less.Kind-1, smaller),
		Old:  []int{d.end.Node.Ref, d.leaf()},
	}
}

// combine plans a copy of the other child x, whose prefix is all that leads
// from the node's parent to the children of x.
func (d *Drop) combine(x api.Node) writer.Plan {
	less, _ := node.Without(d.end.Node.Node, d.end.Fork.Byte)
	ref := less.Kids[0]
	longer, _ := node.Turn(x, x.Kind)
	longer.Prefix = less.Prefix + string(less.Keys) + x.Prefix
	return writer.Plan{
		Make:  made(x.Kind, longer),
		Child: &writer.Place{Ref: ref, Node: x},
		Old:   []int{d.end.Node.Ref, ref, d.leaf()},
	}
}

// leaf returns the ref of the leaf that is removed.
func (d *Drop) leaf() int { return d.end.Fork.Kid }

// made tells one slot to be allocated.
func made(class int, n api.Node) []func([]int) (int, []uint64) {
	words := node.Encode(n)
	return []func([]int) (int, []uint64){func([]int) (int, []uint64) { return class, words }}
}
