package order

import (
	"runtime/debug"
	"slices"
	"testing"

	"reverie/api"
)

// rising are the groups of n things alone, the least first.
func rising(n int) lists {
	list := make(lists, n)
	for i := range list {
		list[i] = []int{i}
	}
	return list
}

// all are the things below n.
func all(n int) []int {
	list := make([]int, n)
	for i := range list {
		list[i] = i
	}
	return list
}

// same is as checkGroups, but doesn't tell of all that great lists hold.
func same(t *testing.T, what string, to, want lists) {
	t.Helper()
	got, e := Groups(to)
	if e != api.OK || !slices.EqualFunc(got, want, slices.Equal) {
		t.Errorf("%s: error %d, %d groups, not %d as they should be", what, e, len(got), len(want))
	}
}

// long is a chain's length, and narrow how deep calls may be meanwhile: they can't be within each other, one for each thing. (A chain of 2^31 - 1 things is allowed, but too great to be made here.)
const long, narrow = 1 << 21, 8 * long

func TestLongChainForth(t *testing.T) {
	defer debug.SetMaxStack(debug.SetMaxStack(narrow))
	to := make(lists, long)
	next := make([]int, long)
	for i := range long - 1 {
		next[i] = i + 1
		to[i] = next[i : i+1]
	}
	want := rising(long)
	slices.Reverse(want)
	same(t, "each on the one behind it", to, want)
	next[long-1] = 0
	to[long-1] = next[long-1:]
	same(t, "a ring", to, lists{all(long)})
	next[long-1] = long
	checkLongWrong(t, to)
}

func TestLongChainBack(t *testing.T) {
	defer debug.SetMaxStack(debug.SetMaxStack(narrow))
	to := make(lists, long)
	next := make([]int, long)
	for i := range long - 1 {
		next[i] = i
		to[i+1] = next[i : i+1]
	}
	same(t, "each on the one ahead of it", to, rising(long))
	to[0] = []int{long - 1}
	same(t, "a ring back", to, lists{all(long)})
	to[1] = []int{-1}
	checkLongWrong(t, to)
}

func checkLongWrong(t *testing.T, to lists) {
	t.Helper()
	if got, e := Groups(to); e != api.ErrArg || got != nil {
		t.Error("not ErrArg and nothing:", e, len(got))
	}
}

// TestWide has many that hang on one, and one that hangs on many.
func TestWide(t *testing.T) {
	const n = 1 << 20
	to := make(lists, n)
	want := rising(n)
	same(t, "all alone", to, want)
	every := all(n)
	to[n-1] = every
	same(t, "the last one on all", to, want)
	to[n-1] = nil
	to[0] = every
	same(t, "the first one on all", to, append(slices.Clone(want[1:]), want[0]))
	for i := range to {
		to[i] = every[n-1:]
	}
	same(t, "all on the last one", to, append(slices.Clone(want[n-1:]), want[:n-1]...))
	to[n-1] = every
	same(t, "the last one and all others", to, lists{every})
	for i := range to {
		to[i] = every[:1]
	}
	same(t, "all on the first one", to, want)
}

// TestLadder has rings of two, each of which hangs on the one behind it.
func TestLadder(t *testing.T) {
	const n = 1 << 20
	to := make(lists, n)
	var want lists
	for i := 0; i < n; i += 2 {
		to[i] = []int{i + 1}
		to[i+1] = []int{i, min(i+2, n-2)}
		want = append(want, []int{i, i + 1})
	}
	slices.Reverse(want)
	same(t, "a ladder", to, want)
}

// TestDense has things that hang on all, and those that hang on all ahead of them, each more than once.
func TestDense(t *testing.T) {
	const n = 1 << 10
	to := make(lists, n)
	every := all(n)
	for i := range to {
		to[i] = slices.Concat(every[:i], every[:i])
	}
	same(t, "each on all ahead of it", to, rising(n))
	for i := range to {
		to[i] = slices.Concat(every[i:], every[i:])
	}
	want := rising(n)
	slices.Reverse(want)
	same(t, "each on all behind it", to, want)
	for i := range to {
		to[i] = every
	}
	same(t, "each on all", to, lists{every})
	same(t, "often on one", lists{nil, slices.Repeat([]int{2}, 1<<20), nil}, lists{{0}, {2}, {1}})
}
