package unify

import "reverie/api"

// looker answers a closure that looks for what a variable stands for, again and again: for a variable that stands for nothing, or a type that has a name. It keeps what it found, so that a long way from variable to variable is gone but once.
func (s Subst) looker() func(n int) api.Type {
	found := map[int]api.Type{}
	return func(n int) api.Type {
		var way []int
		t := Var(n)
		for isVar(t) {
			if end, ok := found[t.Var]; ok {
				t = end
				break
			}
			next, ok := s[t.Var]
			if !ok {
				break
			}
			way = append(way, t.Var)
			found[t.Var] = t // a way that came back would end here
			t = next
		}
		for _, n := range way {
			found[n] = t
		}
		return t
	}
}

// tell lets s tell what the graph's variables stand for. A nil s can't be told anything, so nothing is made one by it.
func (s Subst) tell(g *graph) api.Errno {
	for i, p := range g.parts {
		if !isVar(p.is) || p.to == i {
			continue
		}
		if s == nil {
			return api.ErrType
		}
		s[p.is.Var] = g.parts[g.end(i)].is
	}
	return api.OK
}
