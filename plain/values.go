package plain

import "reverie/api"

// value is an int64, a point, a con or a function.
type value any

type point struct{ re, im int64 }

type con struct {
	name   string
	fields []*sleeper
}

// function waits for as many sleepers as it has names.
type function struct {
	names []string
	body  api.Expr
	holds *hold
}

// sleeper is an expression, or its value.
type sleeper struct {
	expr   api.Expr
	holds  *hold
	given  bool  // whether it is a definition that is a function
	looked bool  // whether its value is, or was, looked for
	is     value // once it was found
}

// hold is a name that holds, what it stands for, and those that hold outside of it.
type hold struct {
	name  string
	is    *sleeper
	outer *hold
}

func sleeperOf(d api.Def) *sleeper {
	if len(d.Params) == 0 {
		return &sleeper{expr: d.Body}
	}
	return &sleeper{given: true, expr: api.Expr{Kind: api.FnE, Names: d.Params, Args: []api.Expr{d.Body}}}
}

func sleepers(list []api.Expr, holds *hold) []*sleeper {
	var all []*sleeper
	for _, x := range list {
		all = append(all, &sleeper{expr: x, holds: holds})
	}
	return all
}

// with are the names that hold, and others, that hold more closely.
func with(holds *hold, names []string, list []*sleeper) *hold {
	for i, s := range list {
		holds = &hold{names[i], s, holds}
	}
	return holds
}

// valueOf finds a sleeper's value once.
func (r *runner) valueOf(s *sleeper) value {
	switch {
	case s.is != nil:
		return s.is
	case s.looked:
		panic(stop(api.ErrLoop))
	}
	s.looked = true
	if s.given {
		r.Others++
		s.is = function{names: s.expr.Names, body: s.expr.Args[0]}
	} else {
		s.is = r.value(s.expr, s.holds)
	}
	return s.is
}

// named is what a name stands for.
func (r *runner) named(name string, holds *hold) *sleeper {
	for h := holds; h != nil; h = h.outer {
		if h.name == name {
			return h.is
		}
	}
	return r.defs[name]
}

// value is an expression's.
func (r *runner) value(x api.Expr, holds *hold) value {
	r.count(&r.Looked)
	switch x.Kind {
	case api.IntE:
		return x.Int
	case api.VarE:
		return r.valueOf(r.named(x.Name, holds))
	case api.ConE:
		return con{x.Name, sleepers(x.Args, holds)}
	case api.FnE:
		return function{x.Names, x.Args[0], holds}
	case api.LetE:
		return r.let(x, holds)
	case api.CaseE:
		return r.caseOf(x, holds)
	case api.AppE:
		return r.give(r.value(x.Args[0], holds), sleepers(x.Args[1:], holds))
	case api.PrimE:
		var list []value
		for _, a := range x.Args {
			list = append(list, r.value(a, holds))
		}
		return operate(x.Name, list)
	}
	panic(stop(api.ErrMatch))
}
