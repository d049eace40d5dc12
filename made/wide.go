package made

import (
	"slices"

	"reverie/api"
)

// Copied is a program in memory of its own.
func Copied(p api.Program) api.Program { return copier{}.program(p) }

// Wide is likewise one, in which other things lie behind the lengths of all lists.
func Wide(p api.Program) api.Program { return copier{wide: true}.program(p) }

// Whole is likewise one, whose lists go on with what lies behind those of the other.
func Whole(p api.Program) api.Program { return copier{whole: true}.program(p) }

// copier makes copies, whose lists have room behind their lengths, if they are wide, in which another part lies.
type copier struct{ wide, whole bool }

func copied[T any](c copier, list []T, other T, of func(T) T) []T {
	if c.whole {
		list = list[:cap(list)]
	}
	list = slices.Clone(list)
	for i, part := range list {
		list[i] = of(part)
	}
	if !c.wide {
		return list
	}
	return append(list, other, other)[:len(list)]
}

func (c copier) program(p api.Program) api.Program {
	return api.Program{Datas: copied(c, p.Datas, api.Data{Name: "Nope"}, c.data), Defs: copied(c, p.Defs, api.Def{Name: "main", Body: nope()}, c.def)}
}

func nope() api.Expr { return api.Expr{Kind: api.VarE, Name: "nope"} }

func (c copier) names(list []string) []string {
	return copied(c, list, "nope", func(name string) string { return name })
}

func (c copier) data(d api.Data) api.Data {
	d.Params, d.Cons = c.names(d.Params), copied(c, d.Cons, api.Con{Name: "Nope"}, c.con)
	return d
}

func (c copier) con(k api.Con) api.Con {
	k.Fields = copied(c, k.Fields, api.TypeE{Name: "Nope"}, c.typ)
	return k
}

func (c copier) typ(t api.TypeE) api.TypeE {
	t.Args = copied(c, t.Args, api.TypeE{Name: "Nope"}, c.typ)
	return t
}

func (c copier) def(d api.Def) api.Def {
	d.Params, d.Body = c.names(d.Params), c.expr(d.Body)
	return d
}

func (c copier) expr(x api.Expr) api.Expr {
	x.Names, x.Args, x.Alts = c.names(x.Names), copied(c, x.Args, nope(), c.expr), copied(c, x.Alts, api.Alt{Body: nope()}, c.alt)
	return x
}

func (c copier) alt(a api.Alt) api.Alt { return api.Alt{Pat: c.pat(a.Pat), Body: c.expr(a.Body)} }

func (c copier) pat(p api.Pat) api.Pat {
	p.Args = copied(c, p.Args, api.Pat{Kind: api.IntP, Int: 77}, c.pat)
	return p
}
