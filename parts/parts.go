// Package parts has what layers share that make programs of programs: what comes of lists, and of expressions in programs, and new names.
package parts

import (
	"slices"

	"reverie/api"
)

// InBodies is a program with what comes of its definitions' bodies.
func InBodies(p api.Program, of func(api.Expr) api.Expr) api.Program {
	defs := Each(p.Defs, func(d api.Def) api.Def {
		d.Params, d.Body = slices.Clone(d.Params), of(d.Body)
		return d
	})
	return api.Program{Datas: slices.Clone(p.Datas), Defs: defs}
}

// InExpr is an expression with what comes of those in it.
func InExpr(x api.Expr, of func(api.Expr) api.Expr) api.Expr {
	x.Names = slices.Clone(x.Names)
	x.Args = Each(x.Args, of)
	x.Alts = Each(x.Alts, func(a api.Alt) api.Alt {
		a.Body = of(a.Body)
		return a
	})
	return x
}

// Each is a list of what comes of another one's parts, from left to right.
func Each[T any](list []T, of func(T) T) []T {
	list = slices.Clone(list)
	for i, part := range list {
		list[i] = of(part)
	}
	return list
}
