package merge_test

import (
	"math"
	"math/rand"
	"slices"
	"testing"

	"tendril/merge"
)

func is(t *testing.T, got []int, want ...int) {
	t.Helper()
	if !slices.Equal(got, want) {
		t.Error(got, "instead of", want)
	}
}

func list(l ...int) []int { return l }

func TestExampleRuns(t *testing.T) {
	is(t, merge.Union(list(1, 4), list(2, 4), list(9)), 1, 2, 4, 9)
	is(t, merge.Inter(list(1, 4), list(4, 5)), 4)
	is(t, merge.Minus(list(1, 4), list(4)), 1)
	is(t, merge.First(2, list(5), list(3, 4)), 3, 4)
	is(t, merge.Union(list(3, 1, 5)), 3, 5)
}

// P21.1: nothing, and the extreme numbers.
func TestEdges(t *testing.T) {
	is(t, merge.Union())
	is(t, merge.Union(nil, list()))
	is(t, merge.Inter())
	is(t, merge.Inter(nil))
	is(t, merge.Inter(list(1), nil))
	is(t, merge.Inter(list(1, 2)), 1, 2)
	is(t, merge.Minus(nil, nil))
	is(t, merge.Minus(nil, list(1)))
	is(t, merge.Minus(list(1), nil), 1)
	is(t, merge.Minus(list(1), list(1)))
	low, high := math.MinInt, math.MaxInt
	is(t, merge.Union(list(low, high), list(low, 0)), low, 0, high)
	is(t, merge.Inter(list(low, 0, high), list(low, high)), low, high)
	is(t, merge.Minus(list(low, 0, high), list(low)), 0, high)
	is(t, merge.First(1, list(low), list(low)), low)
}

// P21.1: First returns as many as there are.
func TestFirst(t *testing.T) {
	for _, n := range []int{0, -1, math.MinInt} {
		is(t, merge.First(n, list(1, 2)))
	}
	is(t, merge.First(1, list(1, 2), list(1, 2)), 1)
	is(t, merge.First(2, list(1, 2), list(1, 2)), 1, 2)
	is(t, merge.First(3, list(1, 2), list(1, 2)), 1, 2)
	is(t, merge.First(math.MaxInt, list(1, 2), list(0)), 0, 1, 2)
	is(t, merge.First(3))
}

// P21.1: of a list that is not ascending, the numbers greater than all before.
func TestNotAscending(t *testing.T) {
	odd := list(3, 3, 1, 5, 4, 5, 2, 9, 0)
	is(t, merge.Union(odd), 3, 5, 9)
	is(t, merge.Union(list(4), odd), 3, 4, 5, 9)
	is(t, merge.Inter(odd), 3, 5, 9)
	is(t, merge.Inter(odd, list(1, 2, 3, 4, 5)), 3, 5)
	is(t, merge.Inter(list(1, 2, 3, 4, 5), odd), 3, 5)
	is(t, merge.Minus(odd, list(5)), 3, 9)
	is(t, merge.Minus(list(1, 2, 3, 4, 5), odd), 1, 2, 4)
	is(t, merge.First(2, odd), 3, 5)
	is(t, merge.Minus(list(math.MinInt, math.MinInt), nil), math.MinInt)
}

// taken is how a list is treated.
func taken(l []int) map[int]int {
	m := map[int]int{}
	for i, x := range l {
		if i == 0 || x > slices.Max(l[:i]) {
			m[x]++
		}
	}
	return m
}

// numbers returns those below 20 for which f holds.
func numbers(f func(x int) bool) []int {
	var l []int
	for x := -1; x < 20; x++ {
		if f(x) {
			l = append(l, x)
		}
	}
	return l
}

// P21.1, P21.2: against sets.
func TestAgainstSets(t *testing.T) {
	r := rand.New(rand.NewSource(21))
	for range 3000 {
		lists := make([][]int, r.Intn(5))
		for i := range lists {
			for range r.Intn(12) {
				lists[i] = append(lists[i], r.Intn(21)-1)
			}
			if r.Intn(2) == 0 {
				slices.Sort(lists[i])
			}
		}
		in := func(x int) int {
			n := 0
			for _, l := range lists {
				n += taken(l)[x]
			}
			return n
		}
		union := numbers(func(x int) bool { return in(x) > 0 })
		is(t, merge.Union(lists...), union...)
		n := r.Intn(9)
		is(t, merge.First(n, lists...), union[:min(n, len(union))]...)
		inter := numbers(func(x int) bool { return len(lists) > 0 && in(x) == len(lists) })
		is(t, merge.Inter(lists...), inter...)
		if len(lists) < 2 {
			continue
		}
		a, b := lists[0], lists[1]
		minus := numbers(func(x int) bool { return taken(a)[x] > 0 && taken(b)[x] == 0 })
		is(t, merge.Minus(a, b), minus...)
		is(t, merge.Union(minus, merge.Inter(a, b)), merge.Union(a)...)
		// Neither order nor repetition matters.
		again := append(slices.Clone(lists), lists[r.Intn(len(lists))])
		r.Shuffle(len(again), func(i, j int) { again[i], again[j] = again[j], again[i] })
		is(t, merge.Union(again...), union...)
		is(t, merge.Inter(again...), inter...)
	}
}

// R2: arguments stay as they are, and results are new memory.
func TestNoSharedMemory(t *testing.T) {
	a, b := list(1, 2, 3, 7)[:3], list(4, 5, 7)[:2]
	lists := [][]int{a, b}
	for _, got := range [][]int{merge.Union(a), merge.Union(lists...), merge.First(9, a), merge.Inter(a), merge.Inter(a, a), merge.Minus(a, nil), merge.Minus(a, b)} {
		got = got[:cap(got)]
		for i := range got {
			got[i] = 99
		}
	}
	is(t, a[:4], 1, 2, 3, 7)
	is(t, b[:3], 4, 5, 7)
	is(t, lists[0], 1, 2, 3)
}

// A list of equal numbers takes time that grows with its length alone.
func TestLongLists(t *testing.T) {
	long := make([]int, 1<<20)
	is(t, merge.Union(long, long), 0)
	is(t, merge.Inter(long, long), 0)
	is(t, merge.Minus(long, long))
	long[0] = 1
	is(t, merge.First(5, long, long), 1)
}
