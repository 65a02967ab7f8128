package lin

import (
	"cmp"
	"slices"

	"tendril/api"
)

// Scans returns the index in l of the first scan that does not fit, or -1.
func Scans(h []api.Event, l []api.Done) int {
	first := -1
	changes := changesOf(l)
	var entries []api.Entry
	moment := 0
	for _, s := range spansOf(h, l) {
		for ; moment < s.from; moment++ {
			// Behind a violation nothing changes any more.
			if changes[moment].kind != 0 {
				entries, _ = apply(entries, l[moment])
			}
		}
		if !fits(l[s.index], entries, changes[s.from:s.to]) && (first < 0 || s.index < first) {
			first = s.index
		}
	}
	return first
}

// span is a scan, and its smallest and largest moment.
type span struct{ index, from, to int }

// spansOf returns the spans of the scans that are not ignored, by their
// smallest moments.
func spansOf(h []api.Event, l []api.Done) []span {
	ends := endsOf(h, l)
	var spans []span
	for i, d := range l {
		if d.Op.Kind != api.OScan || d.Answer.Err != api.OK || ends[i] == len(h) {
			continue
		}
		s := span{index: i}
		for s.from = len(l); s.from > 0 && ends[s.from-1] >= d.Begin; {
			s.from--
		}
		for s.to = len(l); s.to > s.from && l[s.to-1].Begin >= ends[i]; {
			s.to--
		}
		spans = append(spans, s)
	}
	slices.SortStableFunc(spans, func(a, b span) int { return cmp.Compare(a.from, b.from) })
	return spans
}

// change is what an operation does to the entries: an OPut of entry, an ODrop
// of its term, or nothing.
type change struct {
	kind  int
	entry api.Entry
}

// changesOf returns what each operation of l does, as far as Replay gets.
func changesOf(l []api.Done) []change {
	changes := make([]change, len(l))
	_, stop := Replay(l)
	for i, d := range l {
		if i == stop {
			break
		}
		if (d.Op.Kind == api.OPut || d.Op.Kind == api.ODrop) && !isFull(d) {
			changes[i] = change{d.Op.Kind, api.Entry{Term: d.Op.Term, Value: d.Op.Value}}
		}
	}
	return changes
}

// fits reports whether a scan fits, if there were these entries at its smallest
// moment, and these changes up to its largest one.
func fits(d api.Done, entries []api.Entry, changes []change) bool {
	list := d.Answer.List
	if len(list) > d.Op.Value || !areWithin(list, d.Op) {
		return false
	}
	put := map[api.Entry]struct{}{}
	dropped := map[string]struct{}{}
	for _, c := range changes {
		switch c.kind {
		case api.OPut:
			put[c.entry] = struct{}{}
		case api.ODrop:
			dropped[c.entry.Term] = struct{}{}
		}
	}
	for _, e := range list {
		value, there := lookUp(entries, e.Term)
		if _, later := put[e]; !later && !(there && value == e.Value) {
			return false
		}
	}
	for _, e := range entries {
		if _, gone := dropped[e.Term]; !gone && isWithin(e.Term, d.Op) && !isTold(e.Term, d) {
			return false
		}
	}
	return true
}

// areWithin reports whether the terms of a list are ascending and within the
// bounds of a scan.
func areWithin(list []api.Entry, o api.Op) bool {
	for i, e := range list {
		if !isWithin(e.Term, o) || i > 0 && list[i-1].Term >= e.Term {
			return false
		}
	}
	return true
}

func isWithin(t string, o api.Op) bool {
	return t >= o.Term && (o.To == "" || t < o.To)
}

// isTold reports whether a term is in the list of a scan, or need not be
// because the list is full before it.
func isTold(t string, d api.Done) bool {
	list := d.Answer.List
	if len(list) > 0 && len(list) == d.Op.Value && list[len(list)-1].Term < t {
		return true
	}
	_, told := slices.BinarySearchFunc(list, t, func(e api.Entry, t string) int { return cmp.Compare(e.Term, t) })
	return told
}
