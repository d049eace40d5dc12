package unify

import "reverie/api"

// graph has types as numbered parts, some of which were made one. A variable is one part wherever it comes, and so are a list's elements: so there are no more parts than were given and told, however many they would be when written out.
type graph struct {
	look  func(n int) api.Type
	parts []part
	vars  map[int]int    // of each variable that came its part
	lists map[list][]int // of each list that came its elements' parts
}

// part is a variable that stands for nothing, or a type that has a name.
type part struct {
	is    api.Type
	to    int // the part with which it was made one; itself, if with none
	state int
}

// States of a part: whether all that is in it was gone through.
const (
	unseen = iota
	begun
	ended
)

func (s Subst) graph() *graph {
	return &graph{look: s.looker(), vars: map[int]int{}, lists: map[list][]int{}}
}

// number is a type's part.
func (g *graph) number(t api.Type) int {
	if isVar(t) {
		t = g.look(t.Var)
	}
	if !isVar(t) {
		return g.add(t)
	}
	i, ok := g.vars[t.Var]
	if !ok {
		i = g.add(Var(t.Var))
		g.vars[t.Var] = i
	}
	return i
}

func (g *graph) add(t api.Type) int {
	i := len(g.parts)
	g.parts = append(g.parts, part{is: t, to: i})
	return i
}

// args are the parts of that of which a part is.
func (g *graph) args(i int) []int {
	args := g.parts[i].is.Args
	if len(args) == 0 {
		return nil
	}
	numbers, ok := g.lists[listOf(args)]
	if !ok {
		numbers = make([]int, len(args))
		for n, t := range args {
			numbers[n] = g.number(t)
		}
		g.lists[listOf(args)] = numbers
	}
	return numbers
}

// end is the part that stands for all that were made one with a part.
func (g *graph) end(i int) int {
	for g.parts[i].to != i {
		next := g.parts[i].to
		g.parts[i].to = g.parts[next].to // so that the way is shorter the next time
		i = next
	}
	return i
}

// joined makes two types one. It answers what inside does of them, or false, if they can't be made one.
func (g *graph) joined(a, b api.Type) ([]int, bool) {
	own := newMaker(Var) // as what is told is kept, and what is handed in isn't
	i, j := g.number(own.typ(a)), g.number(own.typ(b))
	if !g.join(i, j) {
		return nil, false
	}
	return g.inside(i)
}

// join makes two parts one, and all in them that has to be; it doesn't ask whether one is then in itself.
func (g *graph) join(a, b int) bool {
	pairs := [][2]int{{a, b}}
	for len(pairs) > 0 {
		last := len(pairs) - 1
		i, j := g.end(pairs[last][0]), g.end(pairs[last][1])
		pairs = pairs[:last]
		if i == j {
			continue
		}
		a, b := g.parts[i].is, g.parts[j].is
		switch {
		case isVar(a):
			g.parts[i].to = j
		case isVar(b):
			g.parts[j].to = i
		case a.Name != b.Name || len(a.Args) != len(b.Args):
			return false
		default:
			g.parts[i].to = j
			others := g.args(j)
			for n, arg := range g.args(i) {
				pairs = append(pairs, [2]int{arg, others[n]})
			}
		}
	}
	return true
}

// step is a part on the way into parts, and what in it was not gone into.
type step struct {
	part int
	rest []int
}

// inside are all parts that are in a part, and it, each behind those that are in it; false, if one is in itself.
func (g *graph) inside(i int) ([]int, bool) {
	var list []int
	way := []step{g.begin(g.end(i))}
	for len(way) > 0 {
		top := &way[len(way)-1]
		if len(top.rest) == 0 {
			g.parts[top.part].state = ended
			list = append(list, top.part)
			way = way[:len(way)-1]
			continue
		}
		next := g.end(top.rest[0])
		top.rest = top.rest[1:]
		switch g.parts[next].state {
		case begun:
			return nil, false
		case unseen:
			way = append(way, g.begin(next))
		}
	}
	return list, true
}

func (g *graph) begin(i int) step {
	g.parts[i].state = begun
	return step{i, g.args(i)}
}

// size is how many parts the last one has, of a list as inside answers it; false, if more than most.
func (g *graph) size(inside []int, most int) (int, bool) {
	sizes := make([]int, len(g.parts))
	total := 0
	for _, i := range inside {
		total = 1
		if total > most {
			return 0, false
		}
		for _, arg := range g.args(i) {
			n := sizes[g.end(arg)]
			if n > most-total {
				return 0, false
			}
			total += n
		}
		sizes[i] = total
	}
	return total, true
}
