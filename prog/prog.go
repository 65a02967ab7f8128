// Package prog is what the programs of clients have in common: the access that
// a program wants, and what it does with the result.
package prog

import (
	"slices"

	"tendril/api"
)

// Core is the state of a program of type P, apart from what P itself
// remembers. What the program does next is a func value, as a rule a method
// expression of P.
type Core[P any] struct {
	want   api.Access
	then   func(P, api.Result)
	took   bool
	answer api.Answer
}

// Ask makes a the access that the program wants; then is passed its result.
// A step that asks for nothing has its access repeated.
func (c *Core[P]) Ask(a api.Access, then func(P, api.Result)) {
	c.want, c.then = a, then
}

// InTurn asks for each access of l, whatever the results are, and goes on with
// after: with the last result, or at once if l is empty.
func (c *Core[P]) InTurn(p P, l []api.Access, after func(P, api.Result)) {
	if len(l) == 0 {
		after(p, api.Result{})
		return
	}
	c.Ask(l[0], func(p P, _ api.Result) { c.InTurn(p, l[1:], after) })
}

// Effect says that the operation takes effect with this result, and what its
// answer will be.
func (c *Core[P]) Effect(answer api.Answer) {
	c.took, c.answer = true, answer
}

// Correct replaces the answer of an operation that took effect before its
// answer was known.
func (c *Core[P]) Correct(answer api.Answer) { c.answer = answer }

// Complete ends the program.
func (c *Core[P]) Complete() { c.want, c.then = api.Access{}, nil }

// Next returns the access that the program wants, unless it is completed.
func (c *Core[P]) Next() (api.Access, bool) {
	a := c.want
	a.Words = slices.Clone(a.Words)
	return a, c.then != nil
}

// Got passes the result of the access to the program p, whose Core this is.
func (c *Core[P]) Got(p P, r api.Result) {
	c.took = false
	if c.then != nil {
		c.then(p, r)
	}
}

// Took reports whether the operation took effect with the last result.
func (c *Core[P]) Took() bool { return c.took }

// Answer returns the answer of a completed program.
func (c *Core[P]) Answer() (api.Answer, bool) {
	if c.then != nil {
		return api.Answer{}, false
	}
	a := c.answer
	a.List = slices.Clone(a.List)
	return a, true
}
