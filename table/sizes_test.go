package table_test

import (
	"math"
	"testing"

	"reverie/table"
)

// asSize stands for the size, where a closure's words are all pointers.
const asSize = -1

// words is what the document says of a right sort's closures: their size, from and up to how many words they may have, and how many of these are pointers.
type words struct{ size, from, to, ptrs int }

// plainWords are these, by the document's words.
func plainWords(i table.Info) words {
	switch i.Kind {
	case table.Pap:
		return words{0, 2, 60, asSize}
	case table.Hole:
		return words{0, 1, 60, 0}
	case table.Ind:
		return words{1, 1, 60, 1}
	case table.Int, table.Cpx:
		return words{1, 1, 1, 0}
	}
	n := i.Ptrs + i.Nons
	if n == 0 {
		n = 1
	}
	return words{n, n, n, i.Ptrs}
}

// checkWords asks what each call tells of a right sort, at each size.
func checkWords(t *testing.T, i table.Info, want words) {
	t.Helper()
	if got := table.Size(i); got != want.size {
		t.Errorf("%+v: the size %d, not %d", i, got, want.size)
	}
	for _, n := range sizes() {
		if got, fits := table.Fits(i, n), n >= want.from && n <= want.to; got != fits {
			t.Errorf("%+v: that %d fits is %t, not %t", i, n, got, fits)
		}
		ptrs := want.ptrs
		if ptrs == asSize {
			ptrs = n
		}
		if got := table.Pointers(i, n); got != ptrs {
			t.Errorf("%+v: %d pointers of %d words, not %d", i, got, n, ptrs)
		}
	}
}

func TestSizes(t *testing.T) {
	for _, row := range []struct {
		i    table.Info
		want words
	}{
		{table.Info{}, words{1, 1, 1, 0}}, {table.Info{Tag: 9}, words{1, 1, 1, 0}}, {table.Info{Ptrs: 1}, words{1, 1, 1, 1}}, {table.Info{Ptrs: 2, Tag: 7}, words{2, 2, 2, 2}}, {table.Info{Ptrs: 8}, words{8, 8, 8, 8}}, {table.Info{Ptrs: 60}, words{60, 60, 60, 60}},
		{table.Info{Kind: table.Fun, Arity: 1}, words{1, 1, 1, 0}}, {table.Info{Kind: table.Fun, Arity: 8, Code: 5}, words{1, 1, 1, 0}}, {table.Info{Kind: table.Fun, Arity: math.MaxInt}, words{1, 1, 1, 0}},
		{table.Info{Kind: table.Thunk}, words{1, 1, 1, 0}}, {table.Info{Kind: table.Thunk, Ptrs: 1, Code: 4}, words{1, 1, 1, 1}}, {table.Info{Kind: table.Thunk, Ptrs: 3, Code: 4}, words{3, 3, 3, 3}}, {table.Info{Kind: table.Thunk, Ptrs: 60}, words{60, 60, 60, 60}}, {table.Info{Kind: table.Thunk, Ptrs: 1, Of: 3, Pick: 2}, words{1, 1, 1, 1}},
		{table.Info{Kind: table.Pap}, words{0, 2, 60, asSize}}, {table.Info{Kind: table.Hole}, words{0, 1, 60, 0}},
		{table.Info{Kind: table.Int, Nons: 1}, words{1, 1, 1, 0}}, {table.Info{Kind: table.Cpx, Nons: 1}, words{1, 1, 1, 0}}, {table.Info{Kind: table.Ind, Ptrs: 1}, words{1, 1, 60, 1}},
	} {
		if got := plainWords(row.i); got != row.want {
			t.Fatalf("the test says of %+v %v, and also %v", row.i, row.want, got)
		}
		checkWords(t, row.i, row.want)
	}
}

// TestAllCounts has constructors and thunks of each number of pointers there may be.
func TestAllCounts(t *testing.T) {
	for n := range 61 {
		for _, i := range []table.Info{{Ptrs: n}, {Ptrs: n, Tag: n}, {Kind: table.Thunk, Ptrs: n}, {Kind: table.Thunk, Ptrs: n, Code: n}} {
			checkWords(t, i, words{max(n, 1), max(n, 1), max(n, 1), n})
		}
	}
}

// TestRightSorts has right sorts of each kind.
func TestRightSorts(t *testing.T) {
	of := [8]int{}
	for _, i := range rightSorts() {
		of[i.Kind]++
		checkWords(t, i, plainWords(i))
	}
	for k, n := range of {
		if n == 0 {
			t.Error("there is no right sort of the kind", k)
		}
	}
}

// TestFitsAHead asks that Head takes each size that fits, and that a closure that has it may become a Hole and an Ind.
func TestFitsAHead(t *testing.T) {
	for _, i := range rightSorts() {
		for _, n := range sizes() {
			if !table.Fits(i, n) {
				continue
			}
			if _, e := table.Head(0, n); e != 0 {
				t.Errorf("%+v: %d words are no head's", i, n)
			}
			if !table.Fits(table.Info{Kind: table.Hole}, n) || !table.Fits(table.Info{Kind: table.Ind, Ptrs: 1}, n) {
				t.Errorf("%+v: of %d words there is no room for what it may become", i, n)
			}
			if ptrs := table.Pointers(i, n); ptrs < 0 || ptrs+i.Nons > n {
				t.Errorf("%+v: %d pointers and %d others of %d words", i, ptrs, i.Nons, n)
			}
		}
	}
}
