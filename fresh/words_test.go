package fresh_test

import (
	"fmt"
	"slices"

	"reverie/api"
	"reverie/made"
	"reverie/show"
)

// The document's words: each of these answers what is wrong in what came of a program, or nothing.

// pair are names that are bound at the same place: one in a program, one in what came of it.
type pair struct{ was, is string }

// pairs are those that hold, the innermost last.
type pairs []pair

// with has others hold, too. What it answers may lie where it lay before, which is needed no more then.
func (h pairs) with(was, is []string) pairs {
	for i, n := range was {
		h = append(h, pair{n, is[i]})
	}
	return h
}

// last is the innermost pair by which a name holds; below 0, if it is a definition's.
func (h pairs) last(holds func(pair) bool) int {
	for i, p := range slices.Backward(h) {
		if holds(p) {
			return i
		}
	}
	return -1
}

// stand tells whether two names stand for the same.
func (h pairs) stand(was, is string) bool {
	i, j := h.last(func(p pair) bool { return p.was == was }), h.last(func(p pair) bool { return p.is == is })
	return i == j && (i >= 0 || was == is)
}

// same asks that two programs are the same, but for what is bound, and that each name stands for what it stood for.
func same(p, q api.Program) string {
	if !made.EqualTypes(p, q) {
		return "other types"
	}
	if len(q.Defs) != len(p.Defs) {
		return "other definitions"
	}
	for i, d := range q.Defs {
		was := p.Defs[i]
		if d.Name != was.Name || d.Pos != was.Pos || len(d.Params) != len(was.Params) {
			return fmt.Sprint("another definition at ", i)
		}
		if wrong := (pairs{}).with(was.Params, d.Params).expr(was.Body, d.Body); wrong != "" {
			return wrong + " in " + d.Name
		}
	}
	return ""
}

func (h pairs) expr(x, y api.Expr) string {
	name := y.Name == x.Name
	if x.Kind == api.VarE {
		name = h.stand(x.Name, y.Name)
	}
	if !name || y.Kind != x.Kind || y.Pos != x.Pos || y.Int != x.Int || len(y.Names) != len(x.Names) || len(y.Args) != len(x.Args) || len(y.Alts) != len(x.Alts) {
		return show.Expr(y) + " isn't " + show.Expr(x)
	}
	inner := h
	if x.Kind == api.FnE || x.Kind == api.LetE {
		inner = h.with(x.Names, y.Names)
	}
	for i, a := range x.Args {
		if wrong := inner.expr(a, y.Args[i]); wrong != "" {
			return wrong
		}
	}
	for i, a := range x.Alts {
		if wrong := h.alt(a, y.Alts[i]); wrong != "" {
			return wrong
		}
	}
	return ""
}

func (h pairs) alt(x, y api.Alt) string {
	if wrong := h.pat(x.Pat, y.Pat); wrong != "" {
		return wrong
	}
	return h.expr(x.Body, y.Body)
}

// pat adds what a pattern binds.
func (h *pairs) pat(x, y api.Pat) string {
	if x.Kind == api.VarP {
		*h = append(*h, pair{x.Name, y.Name})
		x.Name, y.Name = "", ""
	}
	if y.Kind != x.Kind || y.Pos != x.Pos || y.Name != x.Name || y.Int != x.Int || len(y.Args) != len(x.Args) {
		return "the pattern " + show.Pat(y) + " isn't " + show.Pat(x)
	}
	for i, a := range x.Args {
		if wrong := h.pat(a, y.Args[i]); wrong != "" {
			return wrong
		}
	}
	return ""
}
