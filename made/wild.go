package made

import (
	"slices"

	"reverie/api"
)

// InTexts are names that texts may have.
func InTexts() []string {
	return []string{"x", "y", "f", "main", "x'", "x''", "x1", "x2", "x1'", "m1", "a1", "f1"}
}

// InNoText are names that no text may have, but layers may make.
func InNoText() []string {
	return []string{"x.1", "x.2", "x.3", "x.4", "f.5", "M.1", "M.2", "A.1", "F.1", "x.1.2", "x.", ".1", ".", "", "C", "+", "T", "A.2", "A.3", "A.10", "A.01", "A.", "A"}
}

// Wild is a program of names from a list, main among them, that all hold, and few of which stand for very many things. It has no types, and parts of all kinds. The same state and list make the same one.
func Wild(state int, names []string) api.Program {
	m := &wild{numbers: begin(state), pool: names}
	return m.program()
}

type wild struct {
	numbers
	places int      // the last part's place
	pool   []string // the names that there may be
}

func (m *wild) place() int {
	m.places++
	return m.places
}

func (m *wild) integer() int64 { return int64(m.some(1<<24))<<40 + int64(m.some(1<<24)) }

// names are some different ones of few.
func (m *wild) names(most int) []string {
	list := slices.Clone(m.pool)
	for i := range list {
		j := i + m.some(len(list)-i)
		list[i], list[j] = list[j], list[i]
	}
	return list[:1+m.some(min(most, len(list)))]
}

func (m *wild) exprs(n, deep int, holds []string) (list []api.Expr) {
	for range n {
		list = append(list, m.expr(deep-1, holds))
	}
	return list
}

// con is a constructor, and how many fields it has.
func (m *wild) con() (string, int) {
	i := []int{0, 1, 1, 2, 2, 2, 2, 3}[m.some(8)]
	return []string{"N", "B", "C", "E"}[i], []int{0, 1, 2, 8}[i]
}

// variable is a name that holds, more often a later one.
func (m *wild) variable(holds []string) api.Expr {
	later := holds[m.some(len(holds)):]
	return api.Expr{Kind: api.VarE, Pos: m.place(), Name: later[m.some(len(later))]}
}

// expr has all parts that layers make of programs that have types: what is applied is no number.
func (m *wild) expr(deep int, holds []string) api.Expr {
	kind := m.some(api.FailE + 1)
	if deep <= 0 {
		kind = []int{api.IntE, api.VarE, api.VarE, api.FailE}[m.some(4)]
	}
	x := api.Expr{Kind: kind, Pos: m.place()}
	switch kind {
	case api.IntE:
		x.Int = m.integer()
	case api.VarE:
		return m.variable(holds)
	case api.ConE:
		name, fields := m.con()
		x.Name, x.Args = name, m.exprs(fields, deep, holds)
	case api.FnE:
		x.Names = m.names(8)
		x.Args = m.exprs(1, deep, slices.Concat(holds, x.Names))
	case api.LetE:
		x.Names = m.names(4)
		x.Args = m.exprs(len(x.Names)+1, deep, slices.Concat(holds, x.Names))
	case api.CaseE:
		x.Args = m.exprs(1, deep, holds)
		x.Alts = m.alts(deep, holds)
	case api.AppE:
		x.Args = m.exprs([]int{2, 2, 3, 3, 4, 4, 5, 9}[m.some(8)], deep, holds)
		if x.Args[0].Kind == api.IntE {
			x.Args[0] = m.variable(holds)
		}
	case api.PrimE:
		x.Name, x.Args = "+", m.exprs(2, deep, holds)
	}
	return x
}

func (m *wild) alts(deep int, holds []string) (list []api.Alt) {
	for range 1 + m.some(4) {
		names := m.names(8)
		p := m.pat(3, &names)
		bound := Bound(api.Expr{Kind: api.CaseE, Alts: []api.Alt{{Pat: p}}})
		list = append(list, api.Alt{Pat: p, Body: m.expr(deep-1, slices.Concat(holds, bound))})
	}
	return list
}

// pat takes its names from those that are left.
func (m *wild) pat(deep int, names *[]string) api.Pat {
	p := api.Pat{Pos: m.place()}
	switch kind := m.some(6); {
	case kind < 2 && deep > 0:
		name, fields := m.con()
		p.Kind, p.Name = api.ConP, name
		for range fields {
			p.Args = append(p.Args, m.pat(deep-1, names))
		}
	case kind == 2:
		p.Kind, p.Int = api.IntP, m.integer()
	case kind > 2 && len(*names) > 0:
		p.Kind, p.Name, *names = api.VarP, (*names)[0], (*names)[1:]
	}
	return p
}

func (m *wild) data() api.Data {
	d := api.Data{Pos: m.place(), Name: "T", Params: []string{"x"}}
	for i, name := range []string{"N", "B", "C", "E"} {
		fields := slices.Repeat([]api.TypeE{{Name: "x"}}, []int{0, 1, 2, 8}[i])
		if i > 1 {
			fields[1] = api.TypeE{Name: "T", Args: []api.TypeE{{Name: "x"}}}
		}
		d.Cons = append(d.Cons, api.Con{Name: name, Fields: fields})
	}
	return d
}

// program has definitions with names like those that are bound in it.
func (m *wild) program() api.Program {
	defs := append(m.names(12), "main")
	slices.Sort(defs)
	defs = slices.Compact(defs)
	p := api.Program{Datas: []api.Data{m.data()}}
	for _, n := range defs {
		d := api.Def{Pos: m.place(), Name: n}
		if n != "main" && m.some(4) > 0 {
			d.Params = m.names(8)
		}
		d.Body = m.expr(5, slices.Concat(defs, d.Params))
		p.Defs = append(p.Defs, d)
	}
	return p
}
