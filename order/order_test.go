package order

import (
	"math"
	"reflect"
	"slices"
	"testing"

	"reverie/api"
)

type lists = [][]int

func checkGroups(t *testing.T, to, want lists) {
	t.Helper()
	if got, e := Groups(to); e != api.OK || !slices.EqualFunc(got, want, slices.Equal) {
		t.Errorf("%v: %v %d, not %v", to, got, e, want)
	}
}

func checkWrong(t *testing.T, to lists) {
	t.Helper()
	if got, e := Groups(to); e != api.ErrArg || got != nil {
		t.Errorf("%v: %v %d, not ErrArg and nothing", to, got, e)
	}
}

func TestNothing(t *testing.T) {
	checkGroups(t, nil, nil)
	checkGroups(t, lists{}, nil)
	checkGroups(t, lists{{0}, {1}}[:0], nil)
}

func TestAlone(t *testing.T) {
	checkGroups(t, lists{nil}, lists{{0}})
	checkGroups(t, lists{{}}, lists{{0}})
	checkGroups(t, lists{nil, {}, nil, {}}, lists{{0}, {1}, {2}, {3}})
	checkGroups(t, lists{{0}}, lists{{0}})
	checkGroups(t, lists{{0, 0, 0}}, lists{{0}})
	checkGroups(t, lists{{0}, {1}, {}, {3, 3}}, lists{{0}, {1}, {2}, {3}})
}

func TestOneOnAnother(t *testing.T) {
	checkGroups(t, lists{{1}, {2}, {1}}, lists{{1, 2}, {0}})
	checkGroups(t, lists{{1}, {}}, lists{{1}, {0}})
	checkGroups(t, lists{{}, {0}}, lists{{0}, {1}})
	checkGroups(t, lists{{1}, {2}, {3}, {}}, lists{{3}, {2}, {1}, {0}})
	checkGroups(t, lists{{}, {0}, {1}, {2}}, lists{{0}, {1}, {2}, {3}})
	checkGroups(t, lists{{3}, {0}, {}, {2}}, lists{{2}, {3}, {0}, {1}})
	checkGroups(t, lists{{0, 1}, {1, 2, 1}, {2}}, lists{{2}, {1}, {0}})
}

func TestMoreThanOnce(t *testing.T) {
	checkGroups(t, lists{{1, 1}, {}}, lists{{1}, {0}})
	checkGroups(t, lists{{2, 1, 2, 1, 2}, {2, 2}, {}}, lists{{2}, {1}, {0}})
	checkGroups(t, lists{{1, 1, 2}, {0, 0}, {3, 3, 3}, {}}, lists{{3}, {2}, {0, 1}})
	checkGroups(t, lists{{0, 3, 0, 3}, {3, 3}, {1, 0, 0, 1}, {}}, lists{{3}, {0}, {1}, {2}})
}

func TestRings(t *testing.T) {
	checkGroups(t, lists{{1}, {0}}, lists{{0, 1}})
	checkGroups(t, lists{{1}, {2}, {3}, {4}, {0}}, lists{{0, 1, 2, 3, 4}})
	checkGroups(t, lists{{4}, {0}, {1}, {2}, {3}}, lists{{0, 1, 2, 3, 4}})
	checkGroups(t, lists{{3}, {4}, {1}, {2}, {0}}, lists{{0, 1, 2, 3, 4}})
	checkGroups(t, lists{{2, 1, 0}, {0, 1, 2}, {1, 2, 0}}, lists{{0, 1, 2}})
	checkGroups(t, lists{{1, 2}, {0}, {0}}, lists{{0, 1, 2}})
	checkGroups(t, lists{{2}, {3}, {0}, {1}}, lists{{0, 2}, {1, 3}})
	checkGroups(t, lists{{5}, {4}, {3}, {2}, {1}, {0}}, lists{{0, 5}, {1, 4}, {2, 3}})
}

func TestRingsOnEachOther(t *testing.T) {
	checkGroups(t, lists{{2, 1}, {3}, {0}, {1}}, lists{{1, 3}, {0, 2}})
	checkGroups(t, lists{{2}, {3, 0}, {0}, {1}}, lists{{0, 2}, {1, 3}})
	checkGroups(t, lists{{1}, {0, 2}, {3}, {2, 4}, {5}, {4}}, lists{{4, 5}, {2, 3}, {0, 1}})
	checkGroups(t, lists{{1}, {0}, {3, 0}, {2}, {5, 1, 3}, {4}}, lists{{0, 1}, {2, 3}, {4, 5}})
	checkGroups(t, lists{{1}, {0, 2}, {3}, {2, 4}, {5}, {4, 0}}, lists{{0, 1, 2, 3, 4, 5}})
	checkGroups(t, lists{{1}, {2, 4}, {3}, {1, 6}, {5}, {6, 4}, {7}, {6}}, lists{{6, 7}, {4, 5}, {1, 2, 3}, {0}})
	checkGroups(t, lists{{5}, {4, 3}, {1}, {}, {2, 0}, {0, 3}}, lists{{3}, {0, 5}, {1, 2, 4}})
}

// TestInnerRings has rings that share things, so that a later one takes up what an earlier one had together.
func TestInnerRings(t *testing.T) {
	checkGroups(t, lists{{1}, {2}, {1, 3}, {0}}, lists{{0, 1, 2, 3}})
	checkGroups(t, lists{{1}, {2}, {3}, {2, 1}}, lists{{1, 2, 3}, {0}})
	checkGroups(t, lists{{1}, {2, 3}, {0}, {4}, {2}}, lists{{0, 1, 2, 3, 4}})
	checkGroups(t, lists{{1, 3}, {2}, {1}, {2, 4}, {3, 0}}, lists{{1, 2}, {0, 3, 4}})
	checkGroups(t, lists{{1}, {2}, {3, 0}, {4}, {5, 3}, {1}}, lists{{0, 1, 2, 3, 4, 5}})
}

// TestWhichComesNext has several that may come next: it is the one with the least first thing, also where another one waited for longer, or has a less last thing.
func TestWhichComesNext(t *testing.T) {
	checkGroups(t, lists{{3}, {}, {}, {}}, lists{{1}, {2}, {3}, {0}})
	checkGroups(t, lists{{1}, {}, {}, {}}, lists{{1}, {0}, {2}, {3}})
	checkGroups(t, lists{{2}, {4}, {}, {}, {}}, lists{{2}, {0}, {3}, {4}, {1}})
	checkGroups(t, lists{{4}, {3}, {}, {}, {}}, lists{{2}, {3}, {1}, {4}, {0}})
	checkGroups(t, lists{{2, 4}, {4}, {}, {2}, {}}, lists{{2}, {3}, {4}, {0}, {1}})
	checkGroups(t, lists{{5}, {}, {5}, {1}, {0}, {}}, lists{{1}, {3}, {5}, {0}, {2}, {4}})
	checkGroups(t, lists{{9}, {2}, {1}, {4}, {3}, {}, {}, {8}, {7}, {}}, lists{{1, 2}, {3, 4}, {5}, {6}, {7, 8}, {9}, {0}})
	checkGroups(t, lists{{9}, {}, {}, {9}, {}, {}, {4}, {}, {0}, {0, 7}}, lists{{1}, {2}, {4}, {5}, {6}, {7}, {0, 9}, {3}, {8}})
	checkGroups(t, lists{{6}, {5}, {3}, {2}, {}, {1}, {0, 4}}, lists{{1, 5}, {2, 3}, {4}, {0, 6}})
	checkGroups(t, lists{{4}, {4}, {4}, {4}, {}}, lists{{4}, {0}, {1}, {2}, {3}})
	checkGroups(t, lists{{}, {}, {}, {}, {0, 1, 2, 3}}, lists{{0}, {1}, {2}, {3}, {4}})
}

func TestNoSuchThing(t *testing.T) {
	for _, to := range []lists{
		{{1}}, {{-1}}, {{0, 1}}, {{1, 0}}, {{-1, 0}}, {{0, 0, -1}}, {{2}, {0}}, {{}, {2}}, {{1}, {0}, {3}}, {{1}, {0}, {-1}}, {{1, 0, 5}, {0}, {}}, {nil, nil, nil, {4}}, {{4}, nil, nil, nil}, {{1}, {2}, {0, 7}, {3}},
	} {
		checkWrong(t, to)
	}
	for _, wrong := range []int{math.MinInt, math.MinInt + 1, math.MinInt32, -8, -7, -1, 7, 8, 14, 1 << 32, 1<<32 + 1, math.MaxInt32, math.MaxInt - 1, math.MaxInt} {
		for thing := range 7 {
			for at := range 4 {
				to := lists{{1, 0, 6}, {0, 2, 3}, {2, 2, 2}, {2, 1, 2}, {4, 5, 0}, {3, 2, 1}, {6, 2, 6}}
				checkGroups(t, to, lists{{2}, {6}, {0, 1, 3}, {5}, {4}})
				to[thing] = slices.Insert(to[thing], at, wrong)
				checkWrong(t, to)
			}
		}
	}
}

// kept is all that a list of lists holds, what lies behind the lengths among it.
func kept(to lists) lists {
	var list lists
	for _, l := range to[:cap(to)] {
		list = append(list, slices.Clone(l[:cap(l)]))
	}
	return list
}

// spare has room behind a list's length, in which another one lies, over and over.
func spare[T any](other T, list ...T) []T {
	wide := append(slices.Clone(list), other, other)
	wide = wide[:cap(wide)]
	for i := range wide[len(list):] {
		wide[len(list)+i] = other
	}
	return wide[:len(list)]
}

// checkSame asks twice, turns each answer's lists one by one, and asks that nothing else is turned by that.
func checkSame(t *testing.T, to lists) {
	t.Helper()
	was := kept(to)
	var before lists
	for turn := range 2 {
		got, e := Groups(to)
		if now := kept(to); !reflect.DeepEqual(now, was) {
			t.Fatalf("%v became %v", was, now)
		}
		if (e == api.OK) != (len(got) > 0) {
			t.Fatal(to, got, e)
		}
		text := slices.Clone(got)
		for i := range text {
			text[i] = slices.Clone(text[i])
		}
		if turn > 0 && !reflect.DeepEqual(text, before) {
			t.Fatalf("%v: %v, and then %v", to, before, text)
		}
		before = text
		for i, l := range got {
			if !slices.Equal(l, text[i]) {
				t.Fatalf("%v: the list %d became %v, not %v", to, i, l, text[i])
			}
			l = l[:cap(l)]
			for j := range l {
				l[j] = -9
			}
		}
		clear(got[:cap(got)])
		if now := kept(to); !reflect.DeepEqual(now, was) {
			t.Fatalf("a turned answer: %v became %v", was, now)
		}
	}
}

func TestNothingIsChanged(t *testing.T) {
	one := []int{0}
	for _, to := range []lists{
		{{}}, {{0}}, {{1}, {2}, {1}}, {{1}, {2}, {3}, {}}, {{1, 1, 0}, {0}, {3}, {2, 0}}, {{}, {}, {}, {}, {}}, {{4}, {3}, {2, 2}, {1}, {0}}, {one, one, one}, {one, one[:0], one},
		{{1}}, {{0}, {-1}}, {{1}, {0}, {2, 3}},
		spare([]int{0}, []int{1}, []int{2}, []int{1}),
		spare([]int{99}, spare(-1, 1), spare(3), spare(7, 0, 0), spare(0), spare(2, 4)),
		spare([]int{0}, spare(0, 1, -1), spare(0)),
	} {
		checkSame(t, to)
	}
}

// TestBehindTheLength has numbers there that tell of no thing, or would make other groups.
func TestBehindTheLength(t *testing.T) {
	checkGroups(t, spare([]int{0}, spare(1), spare(0)), lists{{0}, {1}})
	checkGroups(t, spare([]int{-1}, spare(2, 1), spare(-1)), lists{{1}, {0}})
	for _, other := range []int{math.MinInt, -1, 0, 1, 2, 3, math.MaxInt} {
		checkGroups(t, lists{spare(other, 1), spare(other, 1), spare(other)}, lists{{1}, {0}, {2}})
	}
	checkGroups(t, spare([]int{0}, spare(0), spare(0, 0), spare(1)), lists{{0}, {1}, {2}})
	checkWrong(t, spare([]int{0}, []int{1}))
	checkWrong(t, spare([]int{0, 1, 2}, []int{0}, []int{2}))
}
