package lift_test

import (
	"fmt"
	"slices"
	"strings"

	"reverie/api"
	"reverie/made"
	"reverie/scope"
	"reverie/show"
	"reverie/words"
)

// The document's words: each of these answers what is wrong in what came of a program, or nothing.

// lifted asks that the first definitions are the program's, that there is one more for each function of it, and that all else stands as it did.
func lifted(p, q api.Program) string {
	first, count := len(p.Defs), functions(p)
	if len(q.Defs) != first+count {
		return fmt.Sprintf("%d definitions, of %d, and %d functions", len(q.Defs), first, count)
	}
	if wrong := words.OtherHeads(p, api.Program{Datas: q.Datas, Defs: q.Defs[:first]}) + notNew(p, q.Defs[first:]); wrong != "" {
		return wrong
	}
	if functions(q) > 0 {
		return "a function is left"
	}
	w := &walk{defs: map[string]int{}, news: map[string]api.Def{}}
	for _, d := range p.Defs {
		w.defs[d.Name]++
	}
	for _, d := range q.Defs[first:] {
		w.news[d.Name] = d
	}
	for i, d := range p.Defs {
		if wrong := w.expr(d.Body, q.Defs[i].Body); wrong != "" {
			return wrong + " in " + d.Name
		}
	}
	if len(w.news) > 0 {
		return "a new definition stands for no function"
	}
	return ""
}

// functions counts those of a program.
func functions(p api.Program) (n int) {
	for _, d := range p.Defs {
		made.Each(d.Body, func(x api.Expr) {
			if x.Kind == api.FnE {
				n++
			}
		}, func(api.Pat) {})
	}
	return n
}

// notNew asks that new names are such, begin with F, and have a point in them.
func notNew(p api.Program, news []api.Def) string {
	times := words.Times(p)
	for _, d := range news {
		if !strings.HasPrefix(d.Name, "F") || !strings.Contains(d.Name, ".") {
			return "the new name " + d.Name
		}
		if times[d.Name]++; times[d.Name] > 1 {
			return "the new name " + d.Name + ", that isn't new"
		}
	}
	return ""
}

// walk goes through a program, and what came of it.
type walk struct {
	defs map[string]int     // the program's definitions
	news map[string]api.Def // the new ones, of which no function was found yet
}

func (w *walk) expr(x, y api.Expr) string {
	if x.Kind == api.FnE {
		return w.function(x, y)
	}
	if !made.EqualOuter(x, y) {
		return show.Expr(y) + " isn't " + show.Expr(x)
	}
	list := made.Inner(y)
	for i, a := range made.Inner(x) {
		if wrong := w.expr(a, list[i]); wrong != "" {
			return wrong
		}
	}
	return ""
}

// function asks that a new name stands where a function was, applied to its free names, and what is defined by that.
func (w *walk) function(x, y api.Expr) string {
	free := slices.DeleteFunc(scope.Free(x), func(name string) bool { return w.defs[name] > 0 })
	name := y.Name
	if len(free) > 0 && y.Kind == api.AppE {
		name = y.Args[0].Name
	}
	d, ok := w.news[name]
	if !ok {
		return show.Expr(y) + " isn't a new definition, for " + show.Expr(x)
	}
	delete(w.news, name)
	if want := called(name, free); !made.EqualExprs(withoutPlaces(y), want) {
		return show.Expr(y) + " isn't " + show.Expr(want)
	}
	if !slices.Equal(d.Params, slices.Concat(free, x.Names)) {
		return show.Def(d) + " has other parameters than those for " + show.Expr(x)
	}
	return w.expr(x.Args[0], d.Body)
}

// called is a name, applied to others, if there are some.
func called(name string, others []string) api.Expr {
	list := []api.Expr{{Kind: api.VarE, Name: name}}
	for _, n := range others {
		list = append(list, api.Expr{Kind: api.VarE, Name: n})
	}
	if len(list) == 1 {
		return list[0]
	}
	return api.Expr{Kind: api.AppE, Args: list}
}

// withoutPlaces is what stands where a function was: the document doesn't tell the places of that.
func withoutPlaces(x api.Expr) api.Expr {
	x.Pos, x.Args = 0, slices.Clone(x.Args)
	for i := range x.Args {
		x.Args[i].Pos = 0
	}
	return x
}
