package order

import (
	"math"
	"slices"
)

// settled stands above all places, so that hanging on a thing whose group is known leads back to no place.
const settled = math.MaxInt

// finder goes along a path of things, each of which hangs on the next one. The path is a list, and not calls within calls, because chains may be longer than calls can be deep.
type finder struct {
	to    [][]int
	path  []step
	open  []int // the things that were come to, in that order, and whose group isn't known
	low   []int // of each thing the least place in open, from 1 on, to which it was seen to lead back; 0: it wasn't come to
	first []int // of each thing whose group is known the least one of that
}

// step is a thing on the path, its place in open, and how many of those on which it hangs were gone through.
type step struct{ thing, place, done int }

// firsts are, of each thing, the least one of its group.
func firsts(to [][]int) []int {
	n := len(to)
	// Room for all is taken at once, as a chain of all is a path of all.
	f := &finder{to: to, path: make([]step, 0, n), open: make([]int, 0, n), low: make([]int, n), first: make([]int, n)}
	for thing := range to {
		if f.low[thing] == 0 {
			f.from(thing)
		}
	}
	return f.first
}

// from finds the groups of a thing, and of all that it reaches.
func (f *finder) from(thing int) {
	f.enter(thing)
	for len(f.path) > 0 {
		top := &f.path[len(f.path)-1]
		list := f.to[top.thing]
		if top.done == len(list) {
			f.leave()
			continue
		}
		on := list[top.done]
		if f.low[on] == 0 {
			f.enter(on) // and comes here once more, when it is known where that leads back to
			continue
		}
		f.low[top.thing] = min(f.low[top.thing], f.low[on])
		top.done++
	}
}

func (f *finder) enter(thing int) {
	f.open = append(f.open, thing)
	place := len(f.open)
	f.low[thing] = place
	f.path = append(f.path, step{thing: thing, place: place})
}

// leave settles a group, if the path's last thing leads back to none ahead of it.
func (f *finder) leave() {
	last := len(f.path) - 1
	top := f.path[last]
	f.path = f.path[:last]
	if f.low[top.thing] == top.place {
		f.settle(top.place)
	}
}

// settle makes one group of all that is open from a place on.
func (f *finder) settle(place int) {
	group := f.open[place-1:]
	least := slices.Min(group)
	for _, thing := range group {
		f.low[thing], f.first[thing] = settled, least
	}
	f.open = f.open[:place-1]
}
