package anf

import (
	"slices"

	"reverie/api"
	"reverie/parts"
)

// trimmer has names in the places of others, that stand for the same.
type trimmer struct {
	inPlace map[string]api.Expr // the names that come for those whose let is left out, while these hold
}

func (t *trimmer) expr(x api.Expr) api.Expr {
	if x.Kind == api.LetE && len(x.Names) == 1 && len(x.Args) == 2 {
		return t.let(x)
	}
	if other, ok := t.inPlace[x.Name]; ok && x.Kind == api.VarE {
		x.Name = other.Name
	}
	return parts.InExpr(x, t.expr)
}

// let asks what the name is for only once that has been trimmed, as it may be a name then. What comes for that one itself is known by then, so that no name has to be put in place twice.
func (t *trimmer) let(x api.Expr) api.Expr {
	name, is := x.Names[0], t.expr(x.Args[0])
	if is.Kind != api.VarE || is.Name == name {
		x.Names, x.Args = slices.Clone(x.Names), []api.Expr{is, t.expr(x.Args[1])}
		return x
	}
	t.inPlace[name] = is
	body := t.expr(x.Args[1])
	delete(t.inPlace, name)
	return body
}
