package made

import (
	"slices"

	"reverie/api"
)

// Copied is a program in memory of its own.
func Copied(p api.Program) api.Program { return copier{}.program(p) }

// Wide is likewise one, in which other things lie behind the lengths of all lists.
func Wide(p api.Program) api.Program { return copier{wide: true}.program(p) }

// copier makes copies, whose lists have room behind their lengths, if they are wide, in which another part lies.
type copier struct{ wide bool }

func copied[T any](c copier, list []T, other T, of func(T) T) []T {
	list = slices.Clone(list)
	for i, part := range list {
		list[i] = of(part)
	}
	if !c.wide {
		return list
	}
	return append(list, other, other)[:len(list)]
}

func (c copier) program(p api.Program) api.Program {
	return api.Program{Datas: copied(c, p.Datas, api.Data{Name: "Nope"}, c.data), Defs: copied(c, p.Defs, api.Def{Name: "main", Body: nope()}, c.def)}
}

func nope() api.Expr { return api.Expr{Kind: api.VarE, Name: "nope"} }

func (c copier) names(list []string) []string {
	return copied(c, list, "nope", func(name string) string { return name })
}

func (c copier) data(d api.Data) api.Data {
	d.Params, d.Cons = c.names(d.Params), copied(c, d.Cons, api.Con{Name: "Nope"}, c.con)
	return d
}

func (c copier) con(k api.Con) api.Con {
	k.Fields = copied(c, k.Fields, api.TypeE{Name: "Nope"}, c.typ)
	return k
}

func (c copier) typ(t api.TypeE) api.TypeE {
	t.Args = copied(c, t.Args, api.TypeE{Name: "Nope"}, c.typ)
	return t
}

func (c copier) def(d api.Def) api.Def {
	d.Params, d.Body = c.names(d.Params), c.expr(d.Body)
	return d
}

func (c copier) expr(x api.Expr) api.Expr {
	x.Names, x.Args, x.Alts = c.names(x.Names), copied(c, x.Args, nope(), c.expr), copied(c, x.Alts, api.Alt{Body: nope()}, c.alt)
	return x
}

func (c copier) alt(a api.Alt) api.Alt { return api.Alt{Pat: c.pat(a.Pat), Body: c.expr(a.Body)} }

func (c copier) pat(p api.Pat) api.Pat {
	p.Args = copied(c, p.Args, api.Pat{Kind: api.IntP, Int: 77}, c.pat)
	return p
}

// Behind is what lies behind the lengths of a program's lists.
func Behind(p api.Program) (all []any) {
	all = append(all, behind(p.Datas), behind(p.Defs))
	for _, d := range p.Datas {
		all = append(all, behind(d.Params), behind(d.Cons))
		for _, k := range d.Cons {
			all = append(all, behind(k.Fields))
		}
	}
	for _, d := range p.Defs {
		all = append(all, behind(d.Params))
		Each(d.Body, func(x api.Expr) { all = append(all, behind(x.Names), behind(x.Args), behind(x.Alts)) }, func(p api.Pat) { all = append(all, behind(p.Args)) })
	}
	return all
}

func behind[T any](list []T) []T { return slices.Clone(list[len(list):cap(list)]) }
