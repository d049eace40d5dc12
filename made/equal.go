package made

import (
	"slices"

	"reverie/api"
)

// Equal tells whether two programs are the same, with the places of their parts.
func Equal(p, q api.Program) bool {
	return EqualTypes(p, q) && slices.EqualFunc(p.Defs, q.Defs, func(d, e api.Def) bool {
		return d.Pos == e.Pos && d.Name == e.Name && slices.Equal(d.Params, e.Params) && EqualExprs(d.Body, e.Body)
	})
}

// EqualTypes tells whether two programs have the same types.
func EqualTypes(p, q api.Program) bool {
	return slices.EqualFunc(p.Datas, q.Datas, func(d, e api.Data) bool {
		return d.Pos == e.Pos && d.Name == e.Name && slices.Equal(d.Params, e.Params) && slices.EqualFunc(d.Cons, e.Cons, equalCons)
	})
}

func equalCons(k, l api.Con) bool {
	return k.Pos == l.Pos && k.Name == l.Name && slices.EqualFunc(k.Fields, l.Fields, equalFields)
}

func equalFields(t, u api.TypeE) bool {
	return t.Pos == u.Pos && t.Name == u.Name && slices.EqualFunc(t.Args, u.Args, equalFields)
}

// EqualExprs tells likewise of expressions.
func EqualExprs(x, y api.Expr) bool {
	return EqualOuter(x, y) && slices.EqualFunc(x.Args, y.Args, EqualExprs) && slices.EqualFunc(x.Alts, y.Alts, func(a, b api.Alt) bool { return EqualExprs(a.Body, b.Body) })
}

// EqualOuter tells whether two expressions are the same, but for those that stand in them, of which they have as many.
func EqualOuter(x, y api.Expr) bool {
	return x.Kind == y.Kind && x.Pos == y.Pos && x.Name == y.Name && x.Int == y.Int && slices.Equal(x.Names, y.Names) && len(x.Args) == len(y.Args) && slices.EqualFunc(x.Alts, y.Alts, func(a, b api.Alt) bool { return EqualPats(a.Pat, b.Pat) })
}

// EqualPats tells likewise of patterns.
func EqualPats(p, q api.Pat) bool {
	return p.Kind == q.Kind && p.Pos == q.Pos && p.Name == q.Name && p.Int == q.Int && slices.EqualFunc(p.Args, q.Args, EqualPats)
}

// EqualOutcomes tells likewise of outcomes.
func EqualOutcomes(a, b api.Outcome) bool {
	return a.Error == b.Error && a.Pos == b.Pos && equalTrees(a.Tree, b.Tree)
}

func equalTrees(a, b api.Tree) bool {
	return a.Name == b.Name && a.Int == b.Int && a.Re == b.Re && a.Im == b.Im && slices.EqualFunc(a.Args, b.Args, equalTrees)
}
