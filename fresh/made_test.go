package fresh_test

import (
	"fmt"
	"math/rand/v2"
	"slices"
	"testing"

	"reverie/api"
	"reverie/made"
)

// maker makes programs whose names hold, and that have no types, by a rule that its seed turns.
type maker struct {
	*rand.Rand
	places int      // the last part's place
	pool   []string // the names that there may be
}

// inTexts are names that texts may have; in no text may the others be.
func inTexts() []string {
	return []string{"x", "y", "f", "main", "x'", "x''", "x1", "x2", "x1'", "m1", "a1", "f1"}
}

func inNoText() []string {
	return []string{"x.1", "x.2", "x.3", "x.4", "f.5", "M.1", "M.2", "A.1", "F.1", "x.1.2", "x.", ".1", ".", "", "C", "+", "T"}
}

func (m *maker) place() int {
	m.places++
	return m.places
}

func (m *maker) of(list []string) string { return list[m.IntN(len(list))] }

// names are some different ones of few.
func (m *maker) names(most int) []string {
	list := slices.Clone(m.pool)
	m.Shuffle(len(list), func(i, j int) { list[i], list[j] = list[j], list[i] })
	return list[:1+m.IntN(most)]
}

func (m *maker) exprs(n, deep int, holds []string) (list []api.Expr) {
	for range n {
		list = append(list, m.expr(deep-1, holds))
	}
	return list
}

// expr uses names that hold, the later ones more often.
func (m *maker) expr(deep int, holds []string) api.Expr {
	kind := m.IntN(api.FailE + 1)
	if deep <= 0 {
		kind = []int{api.IntE, api.VarE, api.VarE, api.FailE}[m.IntN(4)]
	}
	x := api.Expr{Kind: kind, Pos: m.place()}
	switch kind {
	case api.IntE:
		x.Int = m.Int64()
	case api.VarE:
		x.Name = m.of(holds[m.IntN(len(holds)):])
	case api.ConE:
		x.Name, x.Args = "C", m.exprs(2, deep, holds)
	case api.FnE:
		x.Names = m.names(8)
		x.Args = m.exprs(1, deep, slices.Concat(holds, x.Names))
	case api.LetE:
		x.Names = m.names(4)
		x.Args = m.exprs(len(x.Names)+1, deep, slices.Concat(holds, x.Names))
	case api.CaseE:
		x.Args = m.exprs(1, deep, holds)
		for range 1 + m.IntN(4) {
			names := m.names(8)
			p := m.pat(3, &names)
			body := m.expr(deep-1, slices.Concat(holds, boundBy(p)))
			x.Alts = append(x.Alts, api.Alt{Pat: p, Body: body})
		}
	case api.AppE:
		x.Args = m.exprs(2+m.IntN(3), deep, holds)
	case api.PrimE:
		x.Name, x.Args = "+", m.exprs(2, deep, holds)
	}
	return x
}

func boundBy(p api.Pat) []string {
	return made.Bound(api.Expr{Kind: api.CaseE, Alts: []api.Alt{{Pat: p}}})
}

// pat takes its names from those that are left.
func (m *maker) pat(deep int, names *[]string) api.Pat {
	p := api.Pat{Pos: m.place()}
	switch kind := m.IntN(6); {
	case kind < 2 && deep > 0:
		p.Kind, p.Name, p.Args = api.ConP, "C", []api.Pat{m.pat(deep-1, names), m.pat(deep-1, names)}
	case kind == 2:
		p.Kind, p.Int = api.IntP, m.Int64()
	case kind > 2 && len(*names) > 0:
		p.Kind, p.Name, *names = api.VarP, (*names)[0], (*names)[1:]
	}
	return p
}

// program has definitions with names like those that are bound in it.
func (m *maker) program() api.Program {
	defs := append(m.names(12), "main")
	slices.Sort(defs)
	defs = slices.Compact(defs)
	p := api.Program{Datas: []api.Data{{Pos: m.place(), Name: "T", Params: []string{"x"}, Cons: []api.Con{{Name: "C", Fields: []api.TypeE{{Name: "x"}, {Name: "T", Args: []api.TypeE{{Name: "x"}}}}}}}}}
	for _, n := range defs {
		d := api.Def{Pos: m.place(), Name: n}
		if n != "main" && m.IntN(4) > 0 {
			d.Params = m.names(8)
		}
		d.Body = m.expr(5, slices.Concat(defs, d.Params))
		p.Defs = append(p.Defs, d)
	}
	return p
}

// TestMadePrograms has programs of all kinds of parts, in each other, with few names for very many things.
func TestMadePrograms(t *testing.T) {
	t.Parallel()
	most := 0
	for i := range 3000 {
		m := &maker{Rand: rand.New(rand.NewPCG(uint64(i), 3)), pool: inTexts()}
		checkAll(t, m.program())
		m.pool = append(inTexts()[:4], inNoText()...)
		p := m.program()
		check(t, check(t, p))
		most = max(most, len(boundNames(p)))
	}
	if most < 300 {
		t.Error("no program bound more than", most)
	}
}

// TestDefinitionsLikeNewNames has definitions with the names that were made when they had other ones.
func TestDefinitionsLikeNewNames(t *testing.T) {
	t.Parallel()
	p := named(t, made.Numbered(97, "(def f# () main) ")+"(def k (x y) (x (fn (x) (y (let ((x x) (z y)) (case x (x (x y z)) (z (z y x)))))))) (def x (x) x) (def main () (x (k main)))")
	for range 200 {
		q := check(t, p)
		list := boundNames(q)
		for i := range list {
			p.Defs[i*7%97].Name = list[i]
		}
	}
	p = named(t, made.Numbered(97, "(def f# () main) ")+"(def k (x y) (x y (fn (x) (x y)))) (def main () k)")
	for i := range 200 {
		for j := range 97 {
			p.Defs[j].Name = fmt.Sprint([]string{"x.", "y."}[(i+j)%2], i+j)
		}
		check(t, p)
	}
}
