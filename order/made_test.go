package order

import (
	"slices"
	"testing"

	"reverie/api"
)

// reaches tells, by the document's words, which thing reaches which.
func reaches(to lists) [][]bool {
	far := make([][]bool, len(to))
	for i, list := range to {
		far[i] = make([]bool, len(to))
		for _, on := range list {
			far[i][on] = true
		}
	}
	for by := range to {
		for i := range to {
			for j := range to {
				far[i][j] = far[i][j] || far[i][by] && far[by][j]
			}
		}
	}
	return far
}

// plainGroups are the groups by the document's words: again and again the first thing is looked for whose group may come next.
func plainGroups(to lists) lists {
	far := reaches(to)
	came := make([]bool, len(to))
	var list lists
	for {
		first := -1
		for i := range to {
			if !came[i] && mayCome(far, came, i) {
				first = i
				break
			}
		}
		if first < 0 {
			return list
		}
		var group []int
		for j := range to {
			if j == first || far[first][j] && far[j][first] {
				group = append(group, j)
				came[j] = true
			}
		}
		list = append(list, group)
	}
}

// mayCome tells whether all that a thing reaches came, or is in its group.
func mayCome(far [][]bool, came []bool, thing int) bool {
	for j, there := range far[thing] {
		if there && !came[j] && !far[j][thing] {
			return false
		}
	}
	return true
}

// graph has the things below n; the bits of which tell which one hangs on which.
func graph(n, which int) lists {
	to := make(lists, n)
	for i := range n * n {
		if which>>i&1 == 1 {
			to[i/n] = append(to[i/n], i%n)
		}
	}
	return to
}

func TestAllSmallGraphs(t *testing.T) {
	for n := range 5 {
		for which := range 1 << (n * n) {
			to := graph(n, which)
			checkGroups(t, to, plainGroups(to))
			for _, list := range to {
				slices.Reverse(list)
			}
			checkGroups(t, to, plainGroups(to))
		}
	}
}

// maker makes graphs by a short rule.
type maker struct{ state uint32 }

// some is a number below n.
func (m *maker) some(n int) int {
	m.state = m.state*1664525 + 1013904223
	return int(m.state>>8) % n
}

// graph has n things, and about as many times each hangs on others as is told; some of them often on the same.
func (m *maker) graph(n, times int) lists {
	to := make(lists, n)
	for range times {
		i, on := m.some(n), m.some(n)
		for range 1 + m.some(6)/5 {
			to[i] = append(to[i], on)
		}
	}
	return to
}

// near is a graph whose things hang on near ones, so that many groups of some things hang on each other.
func (m *maker) near(n, times, far int) lists {
	to := make(lists, n)
	for range times {
		i := m.some(n)
		on := min(max(0, i+m.some(2*far+1)-far), n-1)
		to[i] = append(to[i], on)
	}
	m.rename(to)
	return to
}

// rename gives the things other numbers.
func (m *maker) rename(to lists) {
	name := make([]int, len(to))
	for i := range name {
		name[i] = i
	}
	for i := range name {
		j := m.some(len(name))
		name[i], name[j] = name[j], name[i]
	}
	was := slices.Clone(to)
	for i, list := range was {
		for j, on := range list {
			list[j] = name[on]
		}
		to[name[i]] = list
	}
}

func TestMadeGraphs(t *testing.T) {
	m := &maker{state: 5}
	for i := range 20000 {
		n := 2 + m.some(14)
		to := m.graph(n, m.some(3*n))
		if i%2 == 0 {
			to = m.near(n, m.some(4*n), 1+m.some(2))
		}
		checkGroups(t, to, plainGroups(to))
	}
}

// checkOnce asks what has to be of any things: each is in one group alone, and what it hangs on in that or in one ahead; the things rise; each group's things reach each other; and no group could have come ahead of one with a greater first thing.
func checkOnce(t *testing.T, to, groups lists) {
	t.Helper()
	in := make([]int, len(to))
	count := 0
	for g, list := range groups {
		for i, thing := range list {
			if in[thing] != 0 || i > 0 && list[i-1] >= thing {
				t.Fatalf("the group %d of %d: the thing %d comes twice, or doesn't rise", g, len(groups), thing)
			}
			in[thing] = g + 1
			count++
		}
		if len(list) == 0 || !isOne(to, list) {
			t.Fatalf("the group %d of %d is none: %d things", g, len(groups), len(list))
		}
	}
	if count != len(to) {
		t.Fatalf("%d things of %d are in a group", count, len(to))
	}
	for g, list := range groups {
		last := 0 // of the groups on which it hangs, the last one
		for _, thing := range list {
			for _, on := range to[thing] {
				if in[on] > g+1 {
					t.Fatalf("%d hangs on %d, that comes later", thing, on)
				}
				if in[on] <= g {
					last = max(last, in[on])
				}
			}
		}
		for _, other := range groups[last:g] {
			if other[0] > list[0] {
				t.Fatalf("the group of %d may come ahead of that of %d", list[0], other[0])
			}
		}
	}
}

// isOne tells whether a group's first thing reaches all others by things of the group, and all others reach it so.
func isOne(to lists, list []int) bool {
	forth, back := map[int][]int{}, map[int][]int{}
	in := map[int]bool{}
	for _, thing := range list {
		in[thing] = true
	}
	for _, thing := range list {
		for _, on := range to[thing] {
			if in[on] {
				forth[thing] = append(forth[thing], on)
				back[on] = append(back[on], thing)
			}
		}
	}
	return len(walk(forth, list[0])) == len(list) && len(walk(back, list[0])) == len(list)
}

// walk is all to which the numbers lead from one on, that among them.
func walk(to map[int][]int, from int) []int {
	list, seen := []int{from}, map[int]bool{from: true}
	for i := 0; i < len(list); i++ {
		for _, on := range to[list[i]] {
			if !seen[on] {
				seen[on] = true
				list = append(list, on)
			}
		}
	}
	return list
}

func TestEachInOneGroup(t *testing.T) {
	m := &maker{state: 52}
	var most, rings int
	for i := range 300 {
		n := 1 + m.some(1000)
		var to lists
		switch i % 3 {
		case 0:
			to = m.graph(n, m.some(2*n))
		case 1:
			to = m.near(n, m.some(4*n), 1+m.some(4))
		default:
			to = m.near(n, 2*n, 1+n/100)
		}
		got, e := Groups(to)
		if e != api.OK {
			t.Fatal(e)
		}
		checkOnce(t, to, got)
		most = max(most, len(got))
		for _, list := range got {
			if len(list) > 1 {
				rings++
			}
		}
	}
	if most < 500 || rings < 1000 {
		t.Error("the made graphs say little:", most, rings)
	}
}
