package sense

import "reverie/api"

// value is an int64, a plane.Point, a *con or a *function.
type value any

// con is a constructor with fields.
type con struct {
	name   string
	fields []*sleeper
}

// function waits for an argument for each name. One that got some of its arguments is another function, with fewer names, and more that hold.
type function struct {
	names []string
	body  *api.Expr
	holds *bound
}

// sleeper is an expression, or its value once that was found. Meanwhile it has neither, and so holds nothing that is needed no more.
type sleeper struct {
	expr  *api.Expr
	holds *bound
	value value
}

// bound is a name, what it stands for, and the names that hold outside of it.
type bound struct {
	name  string
	is    *sleeper
	outer *bound
}

// sleepers are those of expressions in which names hold.
func sleepers(list []api.Expr, holds *bound) []*sleeper {
	made := make([]*sleeper, len(list))
	for i := range list {
		made[i] = &sleeper{expr: &list[i], holds: holds}
	}
	return made
}

// sleepersOf are those of definitions, by name.
func sleepersOf(defs []api.Def) map[string]*sleeper {
	made := map[string]*sleeper{}
	for _, d := range defs {
		made[d.Name] = &sleeper{expr: exprOf(d)}
	}
	return made
}

// exprOf is the expression that has a definition's value.
func exprOf(d api.Def) *api.Expr {
	if len(d.Params) == 0 {
		return &d.Body
	}
	return &api.Expr{Kind: api.FnE, Names: d.Params, Args: []api.Expr{d.Body}}
}
