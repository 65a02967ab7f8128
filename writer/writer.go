// Package writer is what the programs that write have in common: attempts, the
// descent, and how an attempt changes the tree or undoes what it began.
package writer

import (
	"tendril/api"
	"tendril/node"
	"tendril/prog"
	"tendril/way"
	"tendril/word"
)

// Writer is a part of the program put or drop. Where the descent of an attempt
// ends, it has arrived: the program then says what is to be done, by Carry,
// Finish or StartAgain.
type Writer struct {
	core    prog.Core[*Writer]
	key     string
	root    int
	tries   int
	again   int // how often it started again
	holds   bool
	loading int
	arrived bool
	end     End
	plan    Plan
	slots   []int // that this attempt allocated
}

// End is where a descent ended.
type End struct {
	Node     Place
	IsRoot   bool
	Parent   Place // of Node, unless it is the root
	Position int   // of the key, at Node
	Fork     way.Fork
}

// New returns the writer of a key. After so many tries it takes the turnstile.
func New(key string, root, tries int) *Writer {
	w := &Writer{key: key, root: root, tries: tries}
	w.core.Ask(api.Access{Kind: api.AEpoch}, (*Writer).pin)
	return w
}

// Next returns the access that is wanted, unless the program is completed.
func (w *Writer) Next() (api.Access, bool) { return w.core.Next() }

// Got passes the result of this access.
func (w *Writer) Got(r api.Result) { w.core.Got(w, r) }

// Took reports whether the operation took effect with the last result.
func (w *Writer) Took() bool { return w.core.Took() }

// Answer returns the answer, if the program is completed.
func (w *Writer) Answer() (api.Answer, bool) { return w.core.Answer() }

// Arrived returns where the descent ended, if the program is to say what is to
// be done.
func (w *Writer) Arrived() (End, bool) { return w.end, w.arrived }

// StartAgain begins another attempt.
func (w *Writer) StartAgain() {
	w.again++
	w.attempt(api.Result{})
}

// Finish lets the operation take effect without a change.
func (w *Writer) Finish(a api.Answer) {
	w.arrived = false
	w.core.Effect(a)
	w.leave(nil)
}

func (w *Writer) pin(r api.Result) {
	w.core.Ask(api.Access{Kind: api.APin, N: r.N}, (*Writer).attempt)
}

// attempt begins an attempt. A program that started again too often takes the
// turnstile; the others wait until nobody holds it.
func (w *Writer) attempt(api.Result) {
	w.arrived = false
	switch {
	case w.holds:
		w.descend()
	case w.again >= w.tries:
		w.core.Ask(api.Access{Kind: api.ATake}, (*Writer).take)
	default:
		w.core.Ask(api.Access{Kind: api.ATurn}, (*Writer).wait)
	}
}

func (w *Writer) take(r api.Result) {
	if r.Ok {
		w.holds = true
		w.descend()
	}
}

func (w *Writer) wait(r api.Result) {
	if r.N < 0 {
		w.descend()
	}
}

// descend begins at the root.
func (w *Writer) descend() {
	w.end = End{IsRoot: true}
	w.load(w.root)
}

func (w *Writer) load(ref int) {
	w.loading = ref
	w.core.Ask(api.Access{Kind: api.ALoad, Ref: ref}, (*Writer).atNode)
}

// atNode goes on from a node that was loaded.
func (w *Writer) atNode(r api.Result) {
	if r.Err != api.OK {
		w.Finish(api.Answer{Err: r.Err})
		return
	}
	n, ok := node.Decode(r.Words)
	switch {
	case !ok:
		w.Finish(api.Answer{Err: api.ErrForm})
	case word.Dead(n.Word):
		w.StartAgain()
	case word.Free(n.Word):
		w.follow(n)
	}
}

// follow follows the key from a node that is neither locked nor dead.
func (w *Writer) follow(n api.Node) {
	f := way.At(n, w.key, w.end.Position)
	w.end.Node = Place{Ref: w.loading, Node: n, Byte: f.Byte}
	w.end.Fork = f
	if _, _, leaf, _ := word.Parts(f.Kid); leaf || !f.Has {
		w.arrived = true
		return
	}
	w.end.Parent = w.end.Node
	w.end.IsRoot = false
	w.end.Position += f.Common + 1
	w.load(f.Kid)
}
