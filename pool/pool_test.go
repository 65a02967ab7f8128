package pool_test

import (
	"math"
	"math/rand"
	"slices"
	"testing"

	"tendril/api"
	"tendril/pool"
)

func create(t *testing.T, most int) *pool.Pool {
	t.Helper()
	p, e := pool.New(most)
	if p == nil || e != api.OK {
		t.Fatal(most, e)
	}
	return p
}

func TestExampleRun(t *testing.T) {
	p := create(t, 5)
	if !p.Put(3) || !p.Put(1) || p.Put(3) {
		t.Error("Put")
	}
	for _, want := range []int{1, 3} {
		if n, ok := p.Take(); n != want || !ok {
			t.Error(n, ok)
		}
	}
	if n, ok := p.Take(); n != 0 || ok {
		t.Error(n, ok)
	}
}

// P3.1: the sizes that there are; nothing is free at first.
func TestNew(t *testing.T) {
	for _, most := range []int{-1, 65536, math.MinInt, math.MaxInt} {
		if p, e := pool.New(most); p != nil || e != api.ErrArg {
			t.Error(most, e)
		}
	}
	for _, most := range []int{0, 1, 65535} {
		p := create(t, most)
		if n, ok := p.Take(); n != 0 || ok || p.Len() != 0 || p.Has(0) {
			t.Error(most, n, ok)
		}
	}
}

// P3.2: what Put takes, and what Has and Len say of it.
func TestPut(t *testing.T) {
	p := create(t, 3)
	for _, n := range []int{-1, 3, math.MinInt, math.MaxInt} {
		if p.Put(n) || p.Has(n) {
			t.Error(n)
		}
	}
	if p.Len() != 0 {
		t.Error("a refused number is free")
	}
	for i, n := range []int{2, 0} {
		if p.Has(n) || !p.Put(n) || !p.Has(n) || p.Put(n) || p.Len() != i+1 {
			t.Error(n, p.Len())
		}
	}
	if p.Has(1) {
		t.Error("1 is free")
	}
	most := create(t, 65535)
	if !most.Put(65534) || most.Put(65535) {
		t.Error("the edge")
	}
	if create(t, 0).Put(0) {
		t.Error("a pool of nothing took 0")
	}
}

// P3.3: a number that was taken is not free, and can be put again.
func TestTake(t *testing.T) {
	p := create(t, 9)
	p.Put(7)
	if n, ok := p.Take(); n != 7 || !ok || p.Has(7) || p.Len() != 0 {
		t.Error(n, ok)
	}
	if !p.Put(7) || !p.Put(0) {
		t.Error("Put again")
	}
	if n, ok := p.Take(); n != 0 || !ok {
		t.Error(n, ok)
	}
	if n, ok := p.Take(); n != 7 || !ok {
		t.Error(n, ok)
	}
}

// P3.4: all numbers come out once, the smallest of those that are free first.
func TestOrder(t *testing.T) {
	r := rand.New(rand.NewSource(3))
	p := create(t, 500)
	var free []int
	for range 5000 {
		if n := r.Intn(500); r.Intn(2) == 0 {
			if p.Put(n) == slices.Contains(free, n) {
				t.Fatal("Put", n)
			}
			if !slices.Contains(free, n) {
				free = append(free, n)
			}
		} else if n, ok := p.Take(); ok != (len(free) > 0) {
			t.Fatal("Take", n, ok)
		} else if ok {
			slices.Sort(free)
			if n != free[0] {
				t.Fatal(n, free[0])
			}
			free = free[1:]
		}
		if p.Len() != len(free) {
			t.Fatal(p.Len(), len(free))
		}
	}
}
