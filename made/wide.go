package made

import (
	"slices"

	"reverie/api"
)

// Wide is a program in memory of its own, in which other things lie behind the lengths of all lists.
func Wide(p api.Program) api.Program {
	return api.Program{Datas: spare(p.Datas, api.Data{Name: "Nope"}, wideData), Defs: spare(p.Defs, api.Def{Name: "main", Body: nope()}, wideDef)}
}

func nope() api.Expr { return api.Expr{Kind: api.VarE, Name: "nope"} }

// spare has room behind a list's length, in which another part lies.
func spare[T any](list []T, other T, wide func(T) T) []T {
	list = slices.Clone(list)
	for i, part := range list {
		list[i] = wide(part)
	}
	return append(list, other, other)[:len(list)]
}

func names(list []string) []string {
	return spare(list, "nope", func(name string) string { return name })
}

func wideData(d api.Data) api.Data {
	d.Params, d.Cons = names(d.Params), spare(d.Cons, api.Con{Name: "Nope"}, wideCon)
	return d
}

func wideCon(c api.Con) api.Con {
	c.Fields = spare(c.Fields, api.TypeE{Name: "Nope"}, wideType)
	return c
}

func wideType(t api.TypeE) api.TypeE {
	t.Args = spare(t.Args, api.TypeE{Name: "Nope"}, wideType)
	return t
}

func wideDef(d api.Def) api.Def {
	d.Params, d.Body = names(d.Params), wideExpr(d.Body)
	return d
}

func wideExpr(x api.Expr) api.Expr {
	x.Names, x.Args, x.Alts = names(x.Names), spare(x.Args, nope(), wideExpr), spare(x.Alts, api.Alt{Body: nope()}, wideAlt)
	return x
}

func wideAlt(a api.Alt) api.Alt { return api.Alt{Pat: widePat(a.Pat), Body: wideExpr(a.Body)} }

func widePat(p api.Pat) api.Pat {
	p.Args = spare(p.Args, api.Pat{Kind: api.IntP, Int: 77}, widePat)
	return p
}
