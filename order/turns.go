package order

import "container/heap"

// turns has the groups, each at its first thing.
type turns struct {
	things [][]int
	users  [][]int // the groups that hang on it, each as often as it does
	waits  []int   // how often it hangs on groups that didn't come yet
	next   ready
}

// inTurn is the groups, given each thing's first one, as they come.
func inTurn(to [][]int, first []int) [][]int {
	t := turnsOf(to, first)
	for thing, group := range first {
		if thing == group && t.waits[group] == 0 {
			heap.Push(&t.next, group)
		}
	}
	var list [][]int
	for t.next.Len() > 0 {
		group := heap.Pop(&t.next).(int)
		list = append(list, t.things[group])
		t.come(group)
	}
	return list
}

func turnsOf(to [][]int, first []int) *turns {
	t := &turns{things: make([][]int, len(to)), users: make([][]int, len(to)), waits: make([]int, len(to))}
	for thing, list := range to {
		group := first[thing]
		t.things[group] = append(t.things[group], thing)
		for _, on := range list {
			if other := first[on]; other != group {
				t.users[other] = append(t.users[other], group)
				t.waits[group]++
			}
		}
	}
	return t
}

// come lets those that wait for a group wait for it no more.
func (t *turns) come(group int) {
	for _, user := range t.users[group] {
		t.waits[user]--
		if t.waits[user] == 0 {
			heap.Push(&t.next, user)
		}
	}
}

// ready is a heap of the groups that may come next, the least first thing on top.
type ready []int

func (r ready) Len() int           { return len(r) }
func (r ready) Less(i, j int) bool { return r[i] < r[j] }
func (r ready) Swap(i, j int)      { r[i], r[j] = r[j], r[i] }
func (r *ready) Push(x any)        { *r = append(*r, x.(int)) }

func (r *ready) Pop() any {
	last := len(*r) - 1
	group := (*r)[last]
	*r = (*r)[:last]
	return group
}
