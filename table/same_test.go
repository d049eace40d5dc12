package table_test

import (
	"math"
	"slices"
	"sync"
	"testing"

	"reverie/api"
	"reverie/table"
)

// given is what calls are given: a sort, a number, a size and a word.
type given struct {
	i          table.Info
	info, size int
	w          uint64
}

// answers are what all calls answer.
type answers struct {
	right, fits      bool
	size, ptrs       int
	head             uint64
	none             api.Errno
	splitTo, splitOf int
	noHead           api.Errno
}

func (g given) answers() (a answers) {
	a.right, a.size = table.Right(g.i), table.Size(g.i)
	a.fits, a.ptrs = table.Fits(g.i, g.size), table.Pointers(g.i, g.size)
	a.head, a.none = table.Head(g.info, g.size)
	a.splitTo, a.splitOf, a.noHead = table.Split(g.w)
	return a
}

// someGiven has sorts that are right and sorts that aren't, with all sorts of numbers, sizes and words.
func someGiven() (list []given) {
	m := &maker{state: 142}
	numbers, all := infos(), sizes()
	allSorts([]int{math.MinInt, -1, 0, 1, math.MaxInt}, func(i table.Info) {
		if m.some(12) > 0 && !plainRight(i) {
			return
		}
		g := given{i: i, info: numbers[m.some(len(numbers))], size: all[m.some(len(all))], w: m.word()}
		if m.some(2) == 0 {
			g.w = uint64(m.some(70))<<32 | g.w>>m.some(64)&math.MaxUint32
		}
		if m.some(2) == 0 {
			g.size = m.some(70)
		}
		list = append(list, g)
	})
	return list
}

func allAnswers(list []given) (got []answers) {
	for _, g := range list {
		got = append(got, g.answers())
	}
	return got
}

// TestTheSameAgain asks all calls again, at once, in the other order, and side by side; of wrong sorts, too, of which nothing more is promised than that each call ends.
func TestTheSameAgain(t *testing.T) {
	list := someGiven()
	kept := slices.Clone(list)
	first := allAnswers(list)
	for i, g := range list {
		if again := g.answers(); again != first[i] || g.answers() != again {
			t.Fatalf("%+v: %+v, then %+v", g, first[i], again)
		}
	}
	turned := slices.Clone(list)
	slices.Reverse(turned)
	back := allAnswers(turned)
	slices.Reverse(back)
	if !slices.Equal(back, first) {
		t.Error("other answers in the other order")
	}
	var group sync.WaitGroup
	for range 4 {
		group.Go(func() {
			if !slices.Equal(allAnswers(list), first) {
				t.Error("other answers side by side")
			}
		})
	}
	group.Wait()
	if !slices.Equal(list, kept) {
		t.Error("what was handed in was changed")
	}
}
