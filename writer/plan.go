package writer

import "tendril/api"

// Plan is what an attempt does where its descent ended: it changes or replaces
// the node.
type Plan struct {
	// Make tells the slots to be allocated, in order. Each is passed the refs
	// of those before it.
	Make []func(slots []int) (class int, words []uint64)
	// Change returns the changed node; it is passed the ref of the slot that
	// was allocated last. Without it, the node is replaced.
	Change func(last int) api.Node
	// Kid replaces the node, or, if it is 0, the slot that was allocated last.
	Kid int
	// Child is replaced together with the node, if it is not nil.
	Child *Place
	// Old tells what is to be retired.
	Old    []int
	Answer api.Answer
}

// Carry carries a plan out, or starts again if the nodes are not any more as
// they were loaded.
func (w *Writer) Carry(p Plan) {
	w.arrived = false
	w.plan, w.slots = p, nil
	w.allocate()
}

// allocate asks for the next slot of the plan, or for what follows them.
func (w *Writer) allocate() {
	switch n := len(w.slots); {
	case n < len(w.plan.Make):
		class, words := w.plan.Make[n](w.slots)
		w.core.Ask(api.Access{Kind: api.AAlloc, Class: class, Words: words}, (*Writer).allocated)
	case w.plan.Change != nil:
		w.core.Ask(w.end.Node.Change(w.plan.Change(w.last())), (*Writer).changed)
	default:
		w.lockParent()
	}
}

// last returns the ref of the slot that was allocated last, or 0.
func (w *Writer) last() int {
	if len(w.slots) == 0 {
		return 0
	}
	return w.slots[len(w.slots)-1]
}

func (w *Writer) allocated(r api.Result) {
	if r.Err != api.OK {
		w.plan.Answer = api.Answer{Err: r.Err}
		w.core.InTurn(w, w.freeing(), (*Writer).giveUp)
		return
	}
	w.slots = append(w.slots, r.N)
	w.allocate()
}

// freeing returns the accesses that free what was allocated, the last one
// first.
func (w *Writer) freeing() []api.Access {
	var l []api.Access
	for i := len(w.slots) - 1; i >= 0; i-- {
		l = append(l, api.Access{Kind: api.AFree, Ref: w.slots[i]})
	}
	return l
}

// giveUp is where an operation takes effect for which there is no room.
func (w *Writer) giveUp(api.Result) { w.Finish(w.plan.Answer) }

// changed is where an operation takes effect that changes a node.
func (w *Writer) changed(r api.Result) {
	if !r.Ok {
		w.undo()
		return
	}
	w.core.Effect(w.plan.Answer)
	w.leave(w.plan.Old)
}

// lockParent begins to replace the node.
func (w *Writer) lockParent() {
	w.core.Ask(w.end.Parent.Lock(), (*Writer).lockNode)
}

func (w *Writer) lockNode(r api.Result) {
	if !r.Ok {
		w.undo()
		return
	}
	w.core.Ask(w.end.Node.Lock(), (*Writer).lockChild)
}

func (w *Writer) lockChild(r api.Result) {
	switch {
	case !r.Ok:
		w.undo(w.end.Parent.Unlock())
	case w.plan.Child != nil:
		w.core.Ask(w.plan.Child.Lock(), (*Writer).publish)
	default:
		w.publish(r)
	}
}

func (w *Writer) publish(r api.Result) {
	if !r.Ok {
		w.undo(w.end.Node.Unlock(), w.end.Parent.Unlock())
		return
	}
	kid := w.plan.Kid
	if kid == 0 {
		kid = w.last()
	}
	w.core.Ask(w.end.Parent.Publish(kid), (*Writer).published)
}

// published is where an operation takes effect that replaces a node. What was
// replaced is dead only afterwards: until then it is locked, and nobody goes on
// from it.
func (w *Writer) published(api.Result) {
	w.core.Effect(w.plan.Answer)
	kill := []api.Access{w.end.Node.Kill()}
	if w.plan.Child != nil {
		kill = append(kill, w.plan.Child.Kill())
	}
	w.leave(w.plan.Old, kill...)
}

// undo unlocks, frees what was allocated, and starts again.
func (w *Writer) undo(unlock ...api.Access) {
	w.core.InTurn(w, append(unlock, w.freeing()...), func(w *Writer, _ api.Result) { w.StartAgain() })
}

// leave asks for first and for what else is left to be done, and completes the
// program.
func (w *Writer) leave(old []int, first ...api.Access) {
	l := first
	for _, ref := range old {
		l = append(l, api.Access{Kind: api.ARetire, Ref: ref})
	}
	if w.holds {
		l = append(l, api.Access{Kind: api.AGive})
	}
	l = append(l, api.Access{Kind: api.AUnpin})
	w.core.InTurn(w, l, func(w *Writer, _ api.Result) { w.core.Complete() })
}
