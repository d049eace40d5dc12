package unify

import "reverie/api"

// roomy is how many parts are made whose lists are each of their own memory. Of those behind them a list that comes again is the same one again: where each variable stands for a type that has the next one twice, there would be more parts than any memory holds.
const roomy = 1 << 16

// maker makes types anew, in memory of its own.
type maker struct {
	look  func(n int) api.Type // what comes in a variable's place; a variable comes as it is
	made  map[list][]api.Type  // of each list that may come again what was made of it
	count int                  // how many parts were made
}

func newMaker(look func(n int) api.Type) *maker {
	return &maker{look: look, made: map[list][]api.Type{}}
}

// half is a list of which some is made: what is still to be made, and where that comes.
type half struct{ from, to []api.Type }

func (m *maker) typ(t api.Type) api.Type {
	whole := make([]api.Type, 1)
	open := []half{{[]api.Type{t}, whole}}
	for len(open) > 0 {
		top := &open[len(open)-1]
		if len(top.from) == 0 {
			open = open[:len(open)-1]
			continue
		}
		from, to := top.from[0], &top.to[0]
		top.from, top.to = top.from[1:], top.to[1:]
		if isVar(from) {
			from = m.look(from.Var)
		}
		if isVar(from) {
			*to = Var(from.Var)
			continue
		}
		args, isNew := m.list(from.Args)
		*to = api.Type{Var: noVar, Name: from.Name, Args: args}
		if isNew {
			open = append(open, half{from.Args, args})
		}
	}
	return whole[0]
}

// list is the list that is made of one, and whether its elements are still to be made.
func (m *maker) list(args []api.Type) ([]api.Type, bool) {
	if len(args) == 0 {
		return nil, false
	}
	l, ok := m.made[listOf(args)]
	if ok {
		return l, false
	}
	l = make([]api.Type, len(args))
	m.count += len(args)
	if m.count > roomy {
		m.made[listOf(args)] = l
	}
	return l, true
}
