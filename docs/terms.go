package docs

import (
	"tendril/api"
	"tendril/drop"
	"tendril/get"
	"tendril/posting"
	"tendril/put"
	"tendril/scan"
	"tendril/tick"
)

const (
	worker = 0 // The client whose programs work on the tree.
	// So many ticks of each client free everything that may be freed.
	mostTicks = 3
)

// idsOf returns the ids of the documents that contain a term.
func (x *Index) idsOf(t string) []int {
	n, there := x.look(t)
	if !there {
		return nil
	}
	return x.lists[n].Ids()
}

// putIn adds a document to the list of a term.
func (x *Index) putIn(id int, t string) api.Errno {
	n, there := x.look(t)
	if !there {
		free, ok := x.numbers.Take()
		if !ok {
			return api.ErrFull
		}
		if e := x.put(t, free); e != api.OK {
			x.numbers.Put(free)
			return e
		}
		n = free
	}
	x.lists[n], _ = x.lists[n].Add(id)
	return api.OK
}

// takeOut removes a document from the list of a term, and the term with its
// last document.
func (x *Index) takeOut(id int, t string) api.Errno {
	n, there := x.look(t)
	if !there {
		return api.OK
	}
	list, _ := x.lists[n].Remove(id)
	if list.Len() == 0 {
		if e := x.drop(t); e != api.OK {
			return e
		}
		list = posting.List{}
		x.numbers.Put(n)
	}
	x.lists[n] = list
	return api.OK
}

// look returns the number of the list of a term.
func (x *Index) look(t string) (int, bool) {
	p, e := get.New(api.Op{Kind: api.OGet, Term: t}, x.memory.Root())
	if e != api.OK {
		return 0, false
	}
	x.work(p.Next, p.Got)
	a, _ := p.Answer()
	return a.Value, a.Found
}

// put stores the number of the list of a term.
func (x *Index) put(t string, n int) api.Errno {
	p, e := put.New(api.Op{Kind: api.OPut, Term: t, Value: n}, x.memory.Root(), x.config.Tries)
	if e != api.OK {
		return e
	}
	x.work(p.Next, p.Got)
	a, _ := p.Answer()
	return a.Err
}

// drop removes a term.
func (x *Index) drop(t string) api.Errno {
	p, e := drop.New(api.Op{Kind: api.ODrop, Term: t}, x.memory.Root(), x.config.Tries)
	if e != api.OK {
		return e
	}
	x.work(p.Next, p.Got)
	a, _ := p.Answer()
	return a.Err
}

// scan returns the entries of a range of terms.
func (x *Index) scan(from, to string, most int) ([]api.Entry, api.Errno) {
	p, e := scan.New(api.Op{Kind: api.OScan, Term: from, To: to, Value: most}, x.memory.Root())
	if e != api.OK {
		return nil, e
	}
	x.work(p.Next, p.Got)
	a, _ := p.Answer()
	return a.List, a.Err
}

// work executes a program, and frees what may be freed after it.
func (x *Index) work(next func() (api.Access, bool), got func(api.Result)) {
	x.execute(worker, next, got)
	for range mostTicks {
		if !x.waits() {
			return
		}
		for client := range x.config.Clients {
			if t, e := tick.New(api.Op{Kind: api.OTick}, x.config.Clients); e == api.OK {
				x.execute(client, t.Next, t.Got)
			}
		}
	}
}

// execute performs the accesses of a program until it is completed.
func (x *Index) execute(client int, next func() (api.Access, bool), got func(api.Result)) {
	for a, ok := next(); ok; a, ok = next() {
		got(x.memory.Do(client, a))
	}
}

// waits reports whether something waits in a limbo.
func (x *Index) waits() bool {
	for client := range x.config.Clients {
		if x.memory.Limbo(client) > 0 {
			return true
		}
	}
	return false
}
