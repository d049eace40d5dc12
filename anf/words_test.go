package anf_test

import (
	"fmt"
	"slices"
	"strings"

	"reverie/api"
	"reverie/made"
	"reverie/show"
	"reverie/words"
)

// The document's words: each of these answers what is wrong in what came of a program, or nothing.

// walk goes through a program, and what came of it.
type walk struct{ news []string } // the new names

// letsAround asks that each application and constructor that has parts without names stands in a let that names just these, by new names, and that all else stands as it did.
func letsAround(p, q api.Program) string {
	w := &walk{}
	for i, d := range p.Defs {
		if wrong := w.expr(d.Body, q.Defs[i].Body); wrong != "" {
			return wrong + " in " + d.Name
		}
	}
	times := words.Times(p)
	for _, n := range w.news {
		if !strings.HasPrefix(n, "A.") || len(n) < 3 || n[2] < '0' || n[2] > '9' {
			return "the new name " + n
		}
		if times[n]++; times[n] > 1 {
			return "the new name " + n + ", that isn't new"
		}
	}
	return ""
}

func (w *walk) expr(x, y api.Expr) string {
	list := words.Unnamed(x)
	if len(list) == 0 {
		return w.same(x, y)
	}
	names, last := y.Names, len(list)
	if y.Kind != api.LetE || y.Name != "" || y.Int != 0 || len(y.Alts) > 0 || len(names) != last || len(y.Args) != last+1 {
		return fmt.Sprintf("%s isn't a let of %d names for %s", show.Expr(y), last, show.Expr(x))
	}
	w.news = append(w.news, names...)
	for i, a := range list {
		if wrong := w.expr(a, y.Args[i]); wrong != "" {
			return wrong
		}
	}
	x.Args = slices.Clone(x.Args)
	for i, a := range x.Args {
		if a.Kind != api.VarE && (a.Kind != api.IntE || x.Kind == api.AppE && i == 0) {
			x.Args[i], names = api.Expr{Kind: api.VarE, Pos: anyPlace, Name: names[0]}, names[1:]
		}
	}
	takePlaces(&x, y.Args[last])
	if !made.EqualExprs(x, y.Args[last]) {
		return show.Expr(y.Args[last]) + " isn't " + show.Expr(x)
	}
	return ""
}

// same asks that two expressions are the same, but for the lets around their parts.
func (w *walk) same(x, y api.Expr) string {
	if !made.EqualOuter(x, y) {
		return show.Expr(y) + " isn't " + show.Expr(x)
	}
	list := made.Inner(y)
	for i, a := range made.Inner(x) {
		if wrong := w.expr(a, list[i]); wrong != "" {
			return wrong
		}
	}
	return ""
}

// anyPlace is one that the document doesn't tell.
const anyPlace = -1

// takePlaces has an expression's parts stand where those of another one do, if their places may be any.
func takePlaces(x *api.Expr, y api.Expr) {
	if x.Pos == anyPlace {
		x.Pos = y.Pos
	}
	for i := range min(len(x.Args), len(y.Args)) {
		takePlaces(&x.Args[i], y.Args[i])
	}
	for i := range min(len(x.Alts), len(y.Alts)) {
		takePlaces(&x.Alts[i].Body, y.Alts[i].Body)
	}
}

// isForOther tells whether an expression is a let of one name, that is for another name.
func isForOther(x api.Expr) bool {
	return x.Kind == api.LetE && len(x.Names) == 1 && x.Args[0].Kind == api.VarE && x.Args[0].Name != x.Names[0]
}

// others asks that there is no such let left.
func others(q api.Program) (wrong string) {
	for _, d := range q.Defs {
		made.Each(d.Body, func(x api.Expr) {
			if isForOther(x) {
				wrong = "a name for a name: " + show.Expr(x)
			}
		}, func(api.Pat) {})
	}
	return wrong
}

// trimmed is what the document says of Trim, word by word. Names in the places of others stand where they do in what came of it.
func trimmed(p, q api.Program) api.Program {
	p = made.Copied(p)
	for i := range p.Defs {
		trim(&p.Defs[i].Body)
		takePlaces(&p.Defs[i].Body, q.Defs[i].Body)
	}
	return p
}

func trim(x *api.Expr) {
	for i := range x.Args {
		trim(&x.Args[i])
	}
	for i := range x.Alts {
		trim(&x.Alts[i].Body)
	}
	if isForOther(*x) {
		name, other := x.Names[0], x.Args[0].Name
		*x = x.Args[1]
		putInPlace(x, name, other)
	}
}

func putInPlace(x *api.Expr, name, other string) {
	if x.Kind == api.VarE && x.Name == name {
		x.Name, x.Pos = other, anyPlace
	}
	for i := range x.Args {
		putInPlace(&x.Args[i], name, other)
	}
	for i := range x.Alts {
		putInPlace(&x.Alts[i].Body, name, other)
	}
}
