package flat_test

import (
	"fmt"
	"slices"
	"strings"

	"reverie/api"
	"reverie/made"
	"reverie/scope"
	"reverie/words"
)

// The document's words: each of these answers what is wrong in what came of a program, or nothing.

// names asks that all names hold, and that the new ones are such as no text has.
func names(p, q api.Program) string {
	if pos, e := scope.Check(q); pos != -1 || e != api.OK {
		return "a name that doesn't hold, or is there twice"
	}
	for i, d := range q.Defs {
		old := made.Bound(p.Defs[i].Body)
		for _, n := range made.Bound(d.Body) {
			if !slices.Contains(old, n) && (!strings.HasPrefix(n, "M") || !strings.Contains(n, ".")) {
				return "the new name " + n
			}
		}
	}
	return ""
}

// shapes asks that the program is flat, and that each part is what its kind says, with nothing else in it.
func shapes(q api.Program) string {
	wrong := words.NotFlat(q)
	for _, d := range q.Defs {
		made.Each(d.Body, func(x api.Expr) {
			if !isRight(x) {
				wrong = fmt.Sprintf("a part isn't right: %+v", x)
			}
		}, func(p api.Pat) {
			if !isRightPat(p) {
				wrong = fmt.Sprintf("a pattern isn't right: %+v", p)
			}
		})
	}
	return wrong
}

func isRight(x api.Expr) bool {
	names, args, alts := len(x.Names), len(x.Args), len(x.Alts)
	has := func(name bool, inNames, inArgs, inAlts bool) bool {
		return (x.Name != "") == name && (names > 0) == inNames && inArgs && (alts > 0) == inAlts && (x.Int == 0 || x.Kind == api.IntE)
	}
	switch x.Kind {
	case api.IntE, api.FailE:
		return has(false, false, args == 0, false)
	case api.VarE:
		return has(true, false, args == 0, false)
	case api.ConE:
		return has(true, false, true, false)
	case api.FnE:
		return has(false, true, args == 1, false)
	case api.LetE:
		return has(false, true, args == names+1, false)
	case api.CaseE:
		return has(false, false, args == 1, true)
	case api.AppE:
		return has(false, false, args > 1, false)
	}
	return x.Kind == api.PrimE && has(true, false, args == api.Prims()[x.Name], false)
}

func isRightPat(p api.Pat) bool {
	name, n, fields := p.Name != "", p.Int != 0, len(p.Args) > 0
	switch p.Kind {
	case api.WildP:
		return !name && !n && !fields
	case api.VarP:
		return name && !n && !fields
	case api.IntP:
		return !name && !fields
	}
	return p.Kind == api.ConP && name && !n
}

// parts are how many an expression has: expressions and patterns.
func parts(x api.Expr) (n int) {
	made.Each(x, func(api.Expr) { n++ }, func(api.Pat) { n++ })
	return n
}

// sizes asks that no definition's body has too many parts.
func sizes(p, q api.Program) string {
	for i, d := range q.Defs {
		if was, is := parts(p.Defs[i].Body), parts(d.Body); is > 12*was+12 {
			return fmt.Sprintf("%s has %d parts, of %d", d.Name, is, was)
		}
	}
	return ""
}

// greatestCase is how many parts the patterns of one case have together, at most.
func greatestCase(p api.Program) (greatest int) {
	for _, d := range p.Defs {
		made.Each(d.Body, func(x api.Expr) {
			n := 0
			for _, a := range x.Alts {
				made.EachPat(a.Pat, func(api.Pat) { n++ })
			}
			greatest = max(greatest, n)
		}, func(api.Pat) {})
	}
	return greatest
}

// fails counts an expression's FailE.
func fails(x api.Expr) (n int) {
	made.Each(x, func(x api.Expr) {
		if x.Kind == api.FailE {
			n++
		}
	}, func(api.Pat) {})
	return n
}
