package table_test

import (
	"math"
	"strings"
	"testing"

	"reverie/api"
	"reverie/table"
)

// checkRight asks whether a sort is right, once the document's words tell the same.
func checkRight(t *testing.T, i table.Info, want bool) {
	t.Helper()
	if plainRight(i) != want {
		t.Fatalf("the test says of %+v that it is right: %t, and also %t", i, want, !want)
	}
	if got := table.Right(i); got != want {
		t.Errorf("%+v: right is %t, not %t", i, got, want)
	}
}

// TestConstants has the kinds and the most as the document says, and sorts that are package api's.
func TestConstants(t *testing.T) {
	if got := [...]int{table.Con, table.Fun, table.Thunk, table.Pap, table.Int, table.Cpx, table.Ind, table.Hole}; got != [...]int{0, 1, 2, 3, 4, 5, 6, 7} {
		t.Error("the kinds:", got)
	}
	if table.Most != 60 {
		t.Error("the most:", table.Most)
	}
	var right func(api.Info) bool = table.Right
	if !right(api.Info{Kind: api.ThunkK}) {
		t.Error("a thunk without words isn't right")
	}
}

func TestRight(t *testing.T) {
	for _, i := range []table.Info{
		{}, {Ptrs: 1}, {Tag: 1}, {Ptrs: 8, Tag: 99}, {Ptrs: 60}, {Ptrs: 60, Tag: math.MaxInt}, {Tag: math.MaxInt},
		{Kind: table.Fun, Arity: 1}, {Kind: table.Fun, Arity: 8, Code: 3}, {Kind: table.Fun, Arity: 61}, {Kind: table.Fun, Arity: math.MaxInt, Code: math.MaxInt},
		{Kind: table.Thunk}, {Kind: table.Thunk, Code: 1}, {Kind: table.Thunk, Ptrs: 1}, {Kind: table.Thunk, Ptrs: 2, Code: 5}, {Kind: table.Thunk, Ptrs: 60, Code: math.MaxInt},
		{Kind: table.Thunk, Ptrs: 1, Pick: 1}, {Kind: table.Thunk, Ptrs: 1, Pick: 1, Of: 1}, {Kind: table.Thunk, Ptrs: 1, Pick: 8, Of: 99, Code: 4}, {Kind: table.Thunk, Ptrs: 1, Pick: math.MaxInt, Of: math.MaxInt, Code: math.MaxInt},
		{Kind: table.Pap}, {Kind: table.Int, Nons: 1}, {Kind: table.Cpx, Nons: 1}, {Kind: table.Ind, Ptrs: 1}, {Kind: table.Hole},
	} {
		checkRight(t, i, true)
	}
}

func TestWrong(t *testing.T) {
	for _, i := range []table.Info{
		{Ptrs: 61}, {Ptrs: math.MaxInt}, {Nons: 1}, {Ptrs: 59, Nons: 1}, {Ptrs: 60, Nons: 1}, {Arity: 1}, {Code: 1}, {Of: 1}, {Pick: 1}, {Ptrs: 1, Pick: 1}, {Ptrs: 1, Pick: 1, Of: 1}, {Ptrs: -1}, {Tag: -1}, {Tag: math.MinInt},
		{Kind: table.Fun}, {Kind: table.Fun, Code: 1}, {Kind: table.Fun, Arity: -1}, {Kind: table.Fun, Arity: math.MinInt}, {Kind: table.Fun, Arity: 1, Ptrs: 1}, {Kind: table.Fun, Arity: 1, Nons: 1}, {Kind: table.Fun, Arity: 1, Tag: 1}, {Kind: table.Fun, Arity: 1, Of: 1}, {Kind: table.Fun, Arity: 1, Pick: 1}, {Kind: table.Fun, Arity: 1, Code: -1},
		{Kind: table.Thunk, Ptrs: 61}, {Kind: table.Thunk, Ptrs: math.MaxInt}, {Kind: table.Thunk, Nons: 1}, {Kind: table.Thunk, Arity: 1}, {Kind: table.Thunk, Tag: 1}, {Kind: table.Thunk, Ptrs: 1, Nons: 1, Pick: 1}, {Kind: table.Thunk, Ptrs: 1, Arity: 1, Pick: 1}, {Kind: table.Thunk, Ptrs: 1, Tag: 1, Pick: 1}, {Kind: table.Thunk, Code: -1},
		{Kind: table.Thunk, Pick: 1}, {Kind: table.Thunk, Pick: 1, Of: 1}, {Kind: table.Thunk, Ptrs: 2, Pick: 1}, {Kind: table.Thunk, Ptrs: 2, Pick: 1, Of: 1}, {Kind: table.Thunk, Of: 1}, {Kind: table.Thunk, Ptrs: 1, Of: 1}, {Kind: table.Thunk, Ptrs: 2, Of: 1}, {Kind: table.Thunk, Ptrs: 1, Pick: -1}, {Kind: table.Thunk, Ptrs: 1, Pick: 1, Of: -1}, {Kind: table.Thunk, Ptrs: 1, Pick: 1, Code: -1}, {Kind: table.Thunk, Ptrs: -1, Pick: 1},
		{Kind: table.Pap, Ptrs: 1}, {Kind: table.Pap, Ptrs: 2}, {Kind: table.Pap, Arity: 1}, {Kind: table.Pap, Code: 1}, {Kind: table.Hole, Ptrs: 1}, {Kind: table.Hole, Nons: 1}, {Kind: table.Hole, Code: 1},
		{Kind: table.Int}, {Kind: table.Int, Nons: 2}, {Kind: table.Int, Nons: 60}, {Kind: table.Int, Ptrs: 1}, {Kind: table.Int, Ptrs: 1, Nons: 1}, {Kind: table.Int, Nons: -1}, {Kind: table.Int, Nons: 1, Tag: 1},
		{Kind: table.Cpx}, {Kind: table.Cpx, Nons: 2}, {Kind: table.Cpx, Nons: 60}, {Kind: table.Cpx, Ptrs: 1}, {Kind: table.Cpx, Ptrs: 1, Nons: 1}, {Kind: table.Cpx, Nons: -1}, {Kind: table.Cpx, Nons: 1, Code: 1},
		{Kind: table.Ind}, {Kind: table.Ind, Ptrs: 2}, {Kind: table.Ind, Ptrs: 60}, {Kind: table.Ind, Nons: 1}, {Kind: table.Ind, Ptrs: 1, Nons: 1}, {Kind: table.Ind, Ptrs: -1}, {Kind: table.Ind, Ptrs: 1, Pick: 1}, {Kind: table.Ind, Ptrs: 1, Code: 1},
		{Kind: -1}, {Kind: 8}, {Kind: math.MinInt}, {Kind: math.MaxInt}, {Kind: 9, Ptrs: 1}, {Kind: -1, Nons: 1}, {Kind: 1 << 32},
	} {
		checkRight(t, i, false)
	}
}

// TestSums has pointers and others of each kind whose sum is the most, or one more, or is too great for an int.
func TestSums(t *testing.T) {
	for _, k := range kinds {
		for _, both := range [][2]int{
			{59, 0}, {60, 0}, {61, 0}, {0, 60}, {0, 61}, {59, 1}, {60, 1}, {1, 59}, {1, 60}, {30, 30}, {30, 31},
			{math.MaxInt, 0}, {math.MaxInt, 1}, {math.MaxInt, 2}, {math.MaxInt, math.MaxInt}, {1, math.MaxInt}, {1 << 62, 1 << 62}, {math.MaxInt - 30, math.MaxInt - 30},
			{math.MinInt, math.MinInt}, {math.MinInt, 0}, {math.MinInt, 1}, {1, math.MinInt}, {math.MaxInt, math.MinInt}, {61, -1}, {-1, 61}, {-60, 120},
		} {
			for _, i := range []table.Info{{Ptrs: both[0], Nons: both[1]}, {Ptrs: both[0], Nons: both[1], Arity: 1}, {Ptrs: both[0], Nons: both[1], Pick: 1}} {
				i.Kind = k
				checkRight(t, i, plainRight(i))
			}
		}
	}
}

// TestTurnedFields has right sorts of each kind, of each of which one number, or two, are turned.
func TestTurnedFields(t *testing.T) {
	for _, i := range []table.Info{
		{}, {Ptrs: 2, Tag: 3}, {Kind: table.Fun, Arity: 1}, {Kind: table.Fun, Arity: 2, Code: 4}, {Kind: table.Thunk}, {Kind: table.Thunk, Ptrs: 1, Code: 1}, {Kind: table.Thunk, Ptrs: 3, Code: 2}, {Kind: table.Thunk, Ptrs: 1, Pick: 1}, {Kind: table.Thunk, Ptrs: 1, Code: 5, Of: 1, Pick: 2},
		{Kind: table.Pap}, {Kind: table.Int, Nons: 1}, {Kind: table.Cpx, Nons: 1}, {Kind: table.Ind, Ptrs: 1}, {Kind: table.Hole},
	} {
		checkRight(t, i, true)
		f := fieldsOf(i)
		numbers := []int{math.MinInt, math.MinInt + 1, -1 << 32, math.MinInt32, -61, -60, -1, 0, 1, 2, 3, 30, 59, 60, 61, 62, 255, 256, math.MaxInt32, 1 << 32, 1<<32 + 1, math.MaxInt}
		for at := range f {
			for other := range f {
				for _, n := range numbers {
					for _, m := range numbers {
						g := f
						g[at], g[other] = n, m
						checkRight(t, g.sort(i.Kind), plainRight(g.sort(i.Kind)))
					}
				}
			}
		}
		for _, k := range kinds {
			checkRight(t, f.sort(k), plainRight(f.sort(k)))
		}
	}
}

// TestAllSmallSorts has all sorts of some numbers, each in each place.
func TestAllSmallSorts(t *testing.T) {
	right := [8]int{}
	allSorts([]int{-1, 0, 1, 2, 60, 61}, func(i table.Info) {
		want := plainRight(i)
		if got := table.Right(i); got != want {
			t.Fatalf("%+v: right is %t, not %t", i, got, want)
		}
		if want {
			right[i.Kind]++
		}
	})
	if want := [8]int{4 * 5, 4 * 5, 4*5 + 5*5*4, 1, 1, 1, 1, 1}; right != want {
		t.Error("right ones of each kind:", right, "not", want)
	}
}

// TestMadeSorts has sorts of numbers of any size.
func TestMadeSorts(t *testing.T) {
	m := &maker{state: 14}
	for range 300000 {
		var f fields
		for at := range f {
			if m.some(3) == 0 {
				f[at] = int(m.word()) >> m.some(64)
			}
		}
		i := f.sort(m.some(10) - 1)
		checkRight(t, i, plainRight(i))
	}
}

// TestNamesDoNotMatter gives sorts names, such as no text has among them.
func TestNamesDoNotMatter(t *testing.T) {
	names := []string{"", "x", "True", "->", "\x00", "\xff\xfe", "F.1", strings.Repeat("n", 5000)}
	allSorts([]int{-1, 0, 1, 2}, func(i table.Info) {
		bare := i
		for _, n := range names {
			i.Name = n
			if table.Right(i) != table.Right(bare) || table.Size(i) != table.Size(bare) || table.Fits(i, 2) != table.Fits(bare, 2) || table.Pointers(i, 2) != table.Pointers(bare, 2) {
				t.Fatalf("%+v, with the name %.10q, is another one", bare, n)
			}
		}
	})
	for _, n := range names {
		checkRight(t, table.Info{Kind: table.Ind, Ptrs: 1, Name: n}, true)
		checkRight(t, table.Info{Kind: table.Ind, Name: n}, false)
	}
}
