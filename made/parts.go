package made

import (
	"slices"

	"reverie/api"
)

// Each goes through an expression and all in it, with the patterns, from outside in, from left to right.
func Each(x api.Expr, expr func(api.Expr), pat func(api.Pat)) {
	expr(x)
	for _, a := range x.Args {
		Each(a, expr, pat)
	}
	for _, a := range x.Alts {
		EachPat(a.Pat, pat)
		Each(a.Body, expr, pat)
	}
}

// Inner are the expressions that stand in another one, not within each other.
func Inner(x api.Expr) []api.Expr {
	list := slices.Clone(x.Args)
	for _, a := range x.Alts {
		list = append(list, a.Body)
	}
	return list
}

// EachPat goes through a pattern and all in it.
func EachPat(p api.Pat, pat func(api.Pat)) {
	pat(p)
	for _, a := range p.Args {
		EachPat(a, pat)
	}
}

// Bound are the names that an expression binds, each as often as it does.
func Bound(x api.Expr) (list []string) {
	Each(x, func(x api.Expr) { list = append(list, x.Names...) }, func(p api.Pat) {
		if p.Kind == api.VarP {
			list = append(list, p.Name)
		}
	})
	return list
}

// Renamed is a program in memory of its own, with other names in the places of those for which there are some, where they are bound, and where they stand for something.
func Renamed(p api.Program, others map[string]string) api.Program {
	p = Copied(p)
	for i := range p.Defs {
		rename(p.Defs[i].Params, others)
		renameIn(&p.Defs[i].Body, others)
	}
	return p
}

func rename(list []string, others map[string]string) {
	for i, name := range list {
		if other, ok := others[name]; ok {
			list[i] = other
		}
	}
}

func renameOne(name *string, others map[string]string) {
	if other, ok := others[*name]; ok {
		*name = other
	}
}

func renameIn(x *api.Expr, others map[string]string) {
	if x.Kind == api.VarE {
		renameOne(&x.Name, others)
	}
	rename(x.Names, others)
	for i := range x.Args {
		renameIn(&x.Args[i], others)
	}
	for i := range x.Alts {
		renameInPat(&x.Alts[i].Pat, others)
		renameIn(&x.Alts[i].Body, others)
	}
}

func renameInPat(p *api.Pat, others map[string]string) {
	if p.Kind == api.VarP {
		renameOne(&p.Name, others)
	}
	for i := range p.Args {
		renameInPat(&p.Args[i], others)
	}
}
