package infer

import (
	"fmt"
	"maps"
	"slices"
	"strings"

	"reverie/api"
	"reverie/unify"
)

// plain finds types in the plainest way: types are whole trees, what names stand for is copied for each scope, and a let asks each name that holds. It takes small programs.
type plain struct {
	p    api.Program
	is   map[int]api.Type
	vars int
	all  []api.Type // of expressions and patterns
}

// poly is a type, and which of its variables stand for any.
type poly struct {
	t   api.Type
	any []int
}

func (l *plain) fresh() api.Type {
	l.vars++
	return unify.Var(l.vars)
}

// whole is a type with what its variables stand for.
func (l *plain) whole(t api.Type) api.Type {
	if is, ok := l.is[t.Var]; t.Var >= 0 && ok {
		return l.whole(is)
	}
	var args []api.Type
	for _, a := range t.Args {
		args = append(args, l.whole(a))
	}
	t.Args = args
	return t
}

func (l *plain) one(a, b api.Type) bool {
	a, b = l.whole(a), l.whole(b)
	switch {
	case a.Var >= 0 && b.Var == a.Var:
		return true
	case a.Var >= 0 && slices.Contains(unify.Vars(b), a.Var):
		return false
	case a.Var >= 0:
		l.is[a.Var] = b
		return true
	case b.Var >= 0:
		return l.one(b, a)
	}
	if a.Name != b.Name || len(a.Args) != len(b.Args) {
		return false
	}
	for i := range a.Args {
		if !l.one(a.Args[i], b.Args[i]) {
			return false
		}
	}
	return true
}

// swapped is a type with others in the place of its variables.
func swapped(t api.Type, is map[int]api.Type) api.Type {
	if other, ok := is[t.Var]; t.Var >= 0 && ok {
		return other
	}
	var args []api.Type
	for _, a := range t.Args {
		args = append(args, swapped(a, is))
	}
	t.Args = args
	return t
}

func (l *plain) instance(s poly) api.Type {
	is := map[int]api.Type{}
	for _, v := range s.any {
		is[v] = l.fresh()
	}
	return swapped(l.whole(s.t), is)
}

// generalised is a type's scheme, where names hold.
func (l *plain) generalised(t api.Type, holds map[string]poly) poly {
	s := poly{t: l.whole(t)}
	for _, v := range unify.Vars(s.t) {
		outside := false
		for _, h := range holds {
			outside = outside || slices.Contains(unify.Vars(l.whole(h.t)), v) && !slices.Contains(h.any, v)
		}
		if !outside {
			s.any = append(s.any, v)
		}
	}
	return s
}

// bound is what holds behind a let of names, or a group.
func (l *plain) bound(names []string, exprs []api.Expr, holds map[string]poly) (map[string]poly, bool) {
	inner := maps.Clone(holds)
	var types []api.Type
	for i, n := range names {
		types = append(types, l.fresh())
		inner[n] = poly{t: types[i]}
	}
	for i, x := range exprs {
		t, ok := l.expr(x, inner)
		if !ok || !l.one(types[i], t) {
			return nil, false
		}
	}
	behind := maps.Clone(holds)
	for i, n := range names {
		behind[n] = l.generalised(types[i], holds)
	}
	return behind, true
}

func (l *plain) expr(x api.Expr, holds map[string]poly) (api.Type, bool) {
	t, ok := l.exprOfKind(x, holds)
	if ok {
		l.all = append(l.all, t)
	}
	return t, ok
}

func (l *plain) exprOfKind(x api.Expr, holds map[string]poly) (t api.Type, ok bool) {
	switch x.Kind {
	case api.IntE:
		return unify.Of("Int"), true
	case api.VarE:
		return l.instance(holds[x.Name]), true
	case api.ConE:
		fields, t := l.con(x.Name)
		for i, a := range x.Args {
			if of, ok := l.expr(a, holds); !ok || !l.one(fields[i], of) {
				return t, false
			}
		}
		return t, true
	case api.FnE:
		return l.fn(x.Names, x.Args[0], holds)
	case api.LetE:
		last := len(x.Names)
		if holds, ok = l.bound(x.Names, x.Args[:last], holds); ok {
			return l.expr(x.Args[last], holds)
		}
		return t, false
	case api.CaseE:
		return l.cases(x, holds)
	case api.AppE:
		return l.app(x, holds)
	}
	return l.prim(x, holds)
}

func (l *plain) fn(names []string, body api.Expr, holds map[string]poly) (api.Type, bool) {
	if len(names) == 0 {
		return l.expr(body, holds)
	}
	a := l.fresh()
	holds = maps.Clone(holds)
	holds[names[0]] = poly{t: a}
	b, ok := l.fn(names[1:], body, holds)
	return unify.Fn(a, b), ok
}

func (l *plain) app(x api.Expr, holds map[string]poly) (api.Type, bool) {
	f, ok := l.expr(x.Args[0], holds)
	for _, a := range x.Args[1:] {
		of, right := l.expr(a, holds)
		left := l.fresh()
		if !ok || !right || !l.one(f, unify.Fn(of, left)) {
			return f, false
		}
		f = left
	}
	return f, ok
}

func (l *plain) cases(x api.Expr, holds map[string]poly) (api.Type, bool) {
	looked, ok := l.expr(x.Args[0], holds)
	t := l.fresh()
	for _, a := range x.Alts {
		inner := maps.Clone(holds)
		of, right := l.pat(a.Pat, inner)
		if !ok || !right || !l.one(looked, of) {
			return t, false
		}
		body, right := l.expr(a.Body, inner)
		if !right || !l.one(t, body) {
			return t, false
		}
	}
	return t, ok
}

func (l *plain) prim(x api.Expr, holds map[string]poly) (api.Type, bool) {
	type kind struct{ names, takes, makes string }
	for _, k := range []kind{{" + - * / % ", "Int", "Int"}, {" = < ", "Int", "Bool"}, {" cpx ", "Int", "Cpx"}, {" re im ", "Cpx", "Int"}, {" cadd cmul ", "Cpx", "Cpx"}} {
		if !strings.Contains(k.names, " "+x.Name+" ") {
			continue
		}
		for _, a := range x.Args {
			if of, ok := l.expr(a, holds); !ok || !l.one(of, unify.Of(k.takes)) {
				return of, false
			}
		}
		return unify.Of(k.makes), true
	}
	return api.Type{}, false
}

// pat lets a pattern's names hold, too.
func (l *plain) pat(p api.Pat, holds map[string]poly) (t api.Type, ok bool) {
	t, ok = unify.Of("Int"), true
	switch p.Kind {
	case api.WildP:
		t = l.fresh()
	case api.VarP:
		t = l.fresh()
		holds[p.Name] = poly{t: t}
	case api.ConP:
		var fields []api.Type
		fields, t = l.con(p.Name)
		for i, a := range p.Args {
			of, right := l.pat(a, holds)
			ok = ok && right && l.one(fields[i], of)
		}
	}
	l.all = append(l.all, t)
	return t, ok
}

func (l *plain) con(name string) ([]api.Type, api.Type) {
	for _, d := range l.p.Datas {
		for _, k := range d.Cons {
			if k.Name != name {
				continue
			}
			var args, fields []api.Type
			for range d.Params {
				args = append(args, l.fresh())
			}
			for _, f := range k.Fields {
				fields = append(fields, written2(f, d.Params, args))
			}
			return fields, unify.Of(d.Name, args...)
		}
	}
	return nil, unify.Of("Bool")
}

// written2 is a type as it is written, of arguments.
func written2(t api.TypeE, params []string, args []api.Type) api.Type {
	if i := slices.Index(params, t.Name); i >= 0 {
		return args[i]
	}
	var of []api.Type
	for _, a := range t.Args {
		of = append(of, written2(a, params, args))
	}
	return unify.Of(t.Name, of...)
}

// plainGroups are the groups of definitions by the document's words, of layer 5 and of this layer.
func plainGroups(defs []api.Def) (list [][]int) {
	n := len(defs)
	reach := make([][]bool, n)
	for i, d := range defs {
		reach[i] = make([]bool, n)
		for j, other := range defs {
			reach[i][j] = uses(d.Body, other.Name) && !slices.Contains(d.Params, other.Name)
		}
	}
	for k := range n {
		for i := range n {
			for j := range n {
				reach[i][j] = reach[i][j] || reach[i][k] && reach[k][j]
			}
		}
	}
	came := make([]bool, n)
	for slices.Contains(came, false) {
		for i := range n {
			var group []int
			ready := !came[i]
			for j := range n {
				together := i == j || reach[i][j] && reach[j][i]
				if together {
					group = append(group, j)
				}
				ready = ready && (together || !reach[i][j] || came[j])
			}
			if !ready {
				continue
			}
			list = append(list, group)
			for _, j := range group {
				came[j] = true
			}
			break
		}
	}
	return list
}

// uses tells whether a name is free in an expression.
func uses(x api.Expr, name string) bool {
	if x.Kind == api.VarE {
		return x.Name == name
	}
	for _, a := range x.Alts {
		if !slices.Contains(patNames(a.Pat), name) && uses(a.Body, name) {
			return true
		}
	}
	return !slices.Contains(x.Names, name) && slices.ContainsFunc(x.Args, func(a api.Expr) bool { return uses(a, name) })
}

func patNames(p api.Pat) (list []string) {
	if p.Kind == api.VarP {
		return []string{p.Name}
	}
	for _, a := range p.Args {
		list = append(list, patNames(a)...)
	}
	return list
}

// plainAnswer is what answer answers.
func plainAnswer(p api.Program) string {
	l := &plain{p: p, is: map[int]api.Type{}}
	holds := map[string]poly{}
	for _, group := range plainGroups(p.Defs) {
		var names []string
		var exprs []api.Expr
		for _, i := range group {
			d := p.Defs[i]
			names, exprs = append(names, d.Name), append(exprs, d.Body)
			if len(d.Params) > 0 {
				exprs[len(exprs)-1] = api.Expr{Kind: api.FnE, Names: d.Params, Args: []api.Expr{d.Body}}
			}
		}
		var ok bool
		holds, ok = l.bound(names, exprs, holds)
		if !ok || slices.ContainsFunc(l.all, func(t api.Type) bool { return count(l.whole(t)) > 1000 }) {
			return fmt.Sprint("none at ", p.Defs[group[0]].Pos)
		}
		l.all = nil
	}
	var texts []string
	for _, d := range p.Defs {
		if t := holds[d.Name].t; d.Name != "main" || !hasFunctions(t, p.Datas) {
			texts = append(texts, unify.Text(unify.Canon(t)))
		} else {
			return fmt.Sprint("none at ", d.Pos)
		}
	}
	return strings.Join(texts, "; ")
}

// hasFunctions tells whether a type isn't one of values. It adds the names of what is in fields, until there is none to be added.
func hasFunctions(t api.Type, datas []api.Data) bool {
	in := map[string]bool{}
	var add func(name string, args []api.TypeE)
	add = func(name string, args []api.TypeE) {
		in[name] = true
		for _, a := range args {
			add(a.Name, a.Args)
		}
	}
	var top func(t api.Type)
	top = func(t api.Type) {
		in[t.Name] = true
		for _, a := range t.Args {
			top(a)
		}
	}
	top(t)
	for was := 0; was != len(in); {
		was = len(in)
		for _, d := range datas {
			for _, k := range d.Cons {
				if in[d.Name] {
					add("", k.Fields)
				}
			}
		}
	}
	return in["->"]
}
