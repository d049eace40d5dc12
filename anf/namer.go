package anf

import (
	"reverie/api"
	"reverie/parts"
)

// namer gives arguments names.
type namer struct{ news *parts.Namer }

func (n *namer) expr(x api.Expr) api.Expr {
	x = parts.InExpr(x, n.expr)
	if x.Kind != api.AppE && x.Kind != api.ConE {
		return x
	}
	let := api.Expr{Kind: api.LetE}
	for i, a := range x.Args {
		applied := x.Kind == api.AppE && i == 0
		if a.Kind == api.VarE || a.Kind == api.IntE && !applied {
			continue
		}
		name := n.news.Name()
		x.Args[i] = api.Expr{Kind: api.VarE, Name: name}
		let.Names, let.Args = append(let.Names, name), append(let.Args, a)
	}
	if len(let.Names) == 0 {
		return x
	}
	let.Args = append(let.Args, x)
	return let
}
