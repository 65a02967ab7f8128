package tree

import (
	"tendril/api"
	"tendril/drop"
	"tendril/get"
	"tendril/put"
	"tendril/scan"
	"tendril/tick"
)

// steps is a program of any kind, as the method values of it.
type steps struct {
	next   func() (api.Access, bool)
	got    func(api.Result)
	took   func() bool
	answer func() (api.Answer, bool)
}

// program returns a new program for an operation.
func program(o api.Op, root, tries, clients int) (steps, api.Errno) {
	switch o.Kind {
	case api.OGet:
		p, e := get.New(o, root)
		return steps{p.Next, p.Got, p.Took, p.Answer}, e
	case api.OPut:
		p, e := put.New(o, root, tries)
		return steps{p.Next, p.Got, p.Took, p.Answer}, e
	case api.ODrop:
		p, e := drop.New(o, root, tries)
		return steps{p.Next, p.Got, p.Took, p.Answer}, e
	case api.OScan:
		p, e := scan.New(o, root)
		return steps{p.Next, p.Got, p.Took, p.Answer}, e
	case api.OTick:
		p, e := tick.New(o, clients)
		return steps{p.Next, p.Got, p.Took, p.Answer}, e
	}
	return steps{}, api.ErrArg
}
