package scope

import (
	"slices"
	"strings"
	"testing"

	"reverie/api"
	"reverie/lex"
	"reverie/parse"
	"reverie/show"
)

// maker makes programs by a short rule. Most of their names hold where they stand; one in odd of them is any.
type maker struct {
	state uint32
	odd   int
	cons  []api.Con
}

// some is a number below n.
func (m *maker) some(n int) int {
	m.state = m.state*1664525 + 1013904223
	return int(m.state>>8) % n
}

func (m *maker) of(list []string) string { return list[m.some(len(list))] }

// isOdd tells whether something is to be any, right or wrong.
func (m *maker) isOdd() bool { return m.some(m.odd) == 0 }

// names are different ones, mostly; few, so that they are bound within each other.
func (m *maker) names(least, most int) []string {
	pool := strings.Fields("x y z f g a h k")
	for i := range pool {
		j := m.some(len(pool))
		pool[i], pool[j] = pool[j], pool[i]
	}
	list := pool[:least+m.some(most-least+1)]
	if len(list) > 1 && m.isOdd() {
		list[m.some(len(list))] = list[0]
	}
	return list
}

func (m *maker) typ(deep int, params, types []string, counts []int) api.TypeE {
	kind := m.some(4)
	if m.isOdd() {
		kind, params = m.some(3), []string{"x", "y", "w"}
	}
	if kind == 0 && len(params) > 0 || deep == 0 && len(params) > 0 {
		return api.TypeE{Name: m.of(params)}
	}
	i := m.some(len(types))
	t, count := api.TypeE{Name: types[i]}, counts[i]
	if deep == 0 {
		return api.TypeE{Name: m.of(strings.Fields("Int Bool Cpx"))}
	}
	if kind == 1 {
		t.Name, count = "->", 2
	} else if m.isOdd() {
		t.Name, count = m.of(append(types, "No")), m.some(3)
	}
	for range count {
		t.Args = append(t.Args, m.typ(deep-1, params, types, counts))
	}
	return t
}

func (m *maker) datas() (list []api.Data) {
	names, counts := strings.Fields("Int Bool Cpx"), []int{0, 0, 0}
	for i := range m.some(4) {
		d := api.Data{Name: []string{"T", "U", "V"}[i], Params: m.names(0, 3)}
		if m.isOdd() {
			d.Name = m.of(append(names, "False"))
		}
		list = append(list, d)
		names, counts = append(names, d.Name), append(counts, len(d.Params))
	}
	pool := strings.Fields("T A B C D E F G")
	for i, d := range list {
		for range 1 + m.some(2) {
			c := api.Con{Name: pool[0]}
			if m.isOdd() {
				c.Name = m.of(strings.Fields("T A B False True Int"))
			}
			pool = pool[1:]
			for range m.some(3) {
				c.Fields = append(c.Fields, m.typ(m.some(3), d.Params, names, counts))
			}
			list[i].Cons = append(list[i].Cons, c)
			m.cons = append(m.cons, c)
		}
	}
	return list
}

// con is a constructor's name, and how many fields it has, mostly.
func (m *maker) con() (string, int) {
	if m.isOdd() {
		return m.of(strings.Fields("T A B C True Int No")), m.some(3)
	}
	c := m.cons[m.some(len(m.cons))]
	return c.Name, len(c.Fields)
}

func (m *maker) pat(deep int, names *[]string) api.Pat {
	switch kind := m.some(5); {
	case kind == 0:
		return api.Pat{Kind: api.WildP}
	case kind == 1:
		return api.Pat{Kind: api.IntP, Int: int64(m.some(3))}
	case kind == 2 && len(*names) > 0 || deep == 0 && len(*names) > 0:
		p := api.Pat{Kind: api.VarP, Name: (*names)[0]}
		if *names = (*names)[1:]; m.isOdd() {
			p.Name = m.of(strings.Fields("x y z f"))
		}
		return p
	}
	name, count := m.con()
	if deep == 0 {
		name, count = "True", 0
	}
	p := api.Pat{Kind: api.ConP, Name: name}
	for range count {
		p.Args = append(p.Args, m.pat(deep-1, names))
	}
	return p
}

func (m *maker) exprs(count, deep int, holds []string) (list []api.Expr) {
	for range count {
		list = append(list, m.expr(deep, holds))
	}
	return list
}

// expr uses names from holds, mostly; the later ones more often.
func (m *maker) expr(deep int, holds []string) api.Expr {
	kind := m.some(9)
	if deep == 0 {
		kind = m.some(3)
	}
	switch kind {
	case 0:
		return api.Expr{Kind: api.IntE, Int: int64(m.some(9))}
	case 1, 2:
		if m.isOdd() {
			return api.Expr{Kind: api.VarE, Name: m.of(strings.Fields("x y z f g w v main"))}
		}
		return api.Expr{Kind: api.VarE, Name: m.of(holds[m.some(len(holds)):])}
	case 3:
		name, count := m.con()
		return api.Expr{Kind: api.ConE, Name: name, Args: m.exprs(count, deep-1, holds)}
	case 4:
		names := m.names(1, 3)
		return api.Expr{Kind: api.FnE, Names: names, Args: m.exprs(1, deep-1, slices.Concat(holds, names))}
	case 5:
		names := m.names(1, 3)
		return api.Expr{Kind: api.LetE, Names: names, Args: m.exprs(len(names)+1, deep-1, slices.Concat(holds, names))}
	case 6:
		x := api.Expr{Kind: api.CaseE, Args: m.exprs(1, deep-1, holds)}
		for range 1 + m.some(3) {
			names := m.names(1, 4)
			left := names
			p := m.pat(2, &left)
			bound := slices.Concat(holds, names[:len(names)-len(left)])
			x.Alts = append(x.Alts, api.Alt{Pat: p, Body: m.expr(deep-1, bound)})
		}
		return x
	case 7:
		return api.Expr{Kind: api.PrimE, Name: "+", Args: m.exprs(2, deep-1, holds)}
	}
	head := api.Expr{Kind: api.VarE, Name: m.of(holds)}
	return api.Expr{Kind: api.AppE, Args: append([]api.Expr{head}, m.exprs(1+m.some(2), deep-1, holds)...)}
}

func (m *maker) program() api.Program {
	m.cons = []api.Con{{Name: "True"}, {Name: "False"}}
	p := api.Program{Datas: m.datas()}
	names := []string{"f", "g", "main", "x"}[m.some(3):]
	if m.isOdd() {
		names[0] = "x"
	}
	for _, name := range names {
		d := api.Def{Name: name, Params: m.names(0, 3)}
		if name == "main" && !m.isOdd() {
			d.Params = nil
		}
		d.Body = m.expr(4, slices.Concat(names, d.Params))
		p.Defs = append(p.Defs, d)
	}
	return p
}

// made is a program as layer 2 answers it; false, if its text is too long.
func made(t *testing.T, state, odd int) (api.Program, bool) {
	m := maker{state: uint32(state), odd: odd}
	s := show.Program(m.program())
	if len(s) > api.MaxSource {
		return api.Program{}, false
	}
	return parsed(t, s), true
}

// spot is where something is wrong: the document's turn, and the place. A list's place is ahead of its parts' places, so that of one turn the least place is told.
type spot struct{ turn, place int }

// spots are all things that are wrong, by the document's words, in any order.
type spots []spot

func (s *spots) when(wrong bool, turn, place int) {
	if wrong {
		*s = append(*s, spot{turn, place})
	}
}

// again tells of which things the name comes ahead of them already.
func again(names []string) (list []int) {
	for i, n := range names {
		if slices.Contains(names[:i], n) {
			list = append(list, i)
		}
	}
	return list
}

func (s *spots) typ(t api.TypeE, p api.Program, params []string) {
	small := t.Name[0] >= 'a' && t.Name[0] <= 'z'
	is := func(d api.Data) bool { return d.Name == t.Name && len(d.Params) == len(t.Args) }
	given := len(t.Args) == 0 && slices.Contains([]string{"Int", "Bool", "Cpx"}, t.Name)
	s.when(small && !slices.Contains(params, t.Name), 2, t.Pos)
	s.when(!small && t.Name != "->" && !given && !slices.ContainsFunc(p.Datas, is), 2, t.Pos)
	for _, a := range t.Args {
		s.typ(a, p, params)
	}
}

func (s *spots) datas(p api.Program) {
	names, cons := []string{"Int", "Bool", "Cpx"}, []string{"False", "True"}
	places := []int{-1, -1}
	for _, d := range p.Datas {
		names = append(names, d.Name)
		s.when(len(again(d.Params)) > 0, 2, d.Pos)
		for _, c := range d.Cons {
			cons, places = append(cons, c.Name), append(places, c.Pos)
			for _, f := range c.Fields {
				s.typ(f, p, d.Params)
			}
		}
	}
	for _, i := range again(names) {
		s.when(true, 1, p.Datas[i-3].Pos)
	}
	for _, i := range again(cons) {
		s.when(true, 2, places[i])
	}
}

func (s *spots) con(p api.Program, name string, fields, place int) {
	right := fields == 0 && (name == "False" || name == "True")
	for _, d := range p.Datas {
		for _, c := range d.Cons {
			right = right || c.Name == name && len(c.Fields) == fields
		}
	}
	s.when(!right, 4, place)
}

// pat answers the parts that are names.
func (s *spots) pat(p api.Program, t api.Pat) (names []api.Pat) {
	if t.Kind == api.VarP {
		return []api.Pat{t}
	}
	if t.Kind == api.ConP {
		s.con(p, t.Name, len(t.Args), t.Pos)
	}
	for _, a := range t.Args {
		names = append(names, s.pat(p, a)...)
	}
	return names
}

func (s *spots) expr(p api.Program, x api.Expr, holds []string) {
	switch x.Kind {
	case api.VarE:
		s.when(!slices.Contains(holds, x.Name), 4, x.Pos)
	case api.ConE:
		s.con(p, x.Name, len(x.Args), x.Pos)
	case api.FnE, api.LetE:
		s.when(len(again(x.Names)) > 0, 4, x.Pos)
		holds = slices.Concat(holds, x.Names)
	}
	for _, a := range x.Alts {
		var names []string
		parts := s.pat(p, a.Pat)
		for _, n := range parts {
			names = append(names, n.Name)
		}
		for _, i := range again(names) {
			s.when(true, 4, parts[i].Pos)
		}
		s.expr(p, a.Body, slices.Concat(holds, names))
	}
	for _, a := range x.Args {
		s.expr(p, a, holds)
	}
}

// allSpots has the first one first.
func allSpots(p api.Program) spots {
	var s spots
	s.datas(p)
	var names []string
	for _, d := range p.Defs {
		names = append(names, d.Name)
	}
	for _, i := range again(names) {
		s.when(true, 3, p.Defs[i].Pos)
	}
	for _, d := range p.Defs {
		s.when(len(again(d.Params)) > 0, 4, d.Pos)
		s.expr(p, d.Body, slices.Concat(names, d.Params))
		s.when(d.Name == "main" && len(d.Params) > 0, 5, d.Pos)
	}
	s.when(!slices.Contains(names, "main"), 5, 0)
	slices.SortFunc(s, func(a, b spot) int {
		if a.turn != b.turn {
			return a.turn - b.turn
		}
		return a.place - b.place
	})
	return s
}

// TestMadePrograms holds the first place that is wrong against all of them.
func TestMadePrograms(t *testing.T) {
	held, right, several := 0, 0, 0
	turns := make([]int, 6)
	for i := range 9000 {
		p, ok := made(t, i, []int{4, 25, 120, 1000}[i%4])
		if !ok {
			continue
		}
		held++
		want, e, all := -1, api.OK, allSpots(p)
		if len(all) > 0 {
			want, e = all[0].place, api.ErrScope
			turns[all[0].turn]++
		} else {
			right++
		}
		if len(all) > 1 {
			several++
		}
		if pos, err := Check(p); pos != want || err != e {
			t.Fatalf("%s: %d %d, not %d %d", show.Program(p), pos, err, want, e)
		}
		if i%16 < 4 {
			checkSame(t, p)
		}
	}
	if held < 6000 || right < 1000 || several < 1000 || slices.Min(turns[1:]) < 50 {
		t.Error("too few programs of a kind were held:", held, right, several, turns)
	}
}

// turned is a text, some of whose words are others.
func turned(t *testing.T, m *maker, s string) string {
	t.Helper()
	tokens, _, e := lex.Tokens([]byte(s))
	if e != api.OK {
		t.Fatalf("%q: error %d", s, e)
	}
	for range 1 + m.some(2) {
		k := &tokens[m.some(len(tokens))]
		switch k.Kind {
		case api.NameTok:
			k.Text = m.of(strings.Fields("x y f main q T True 1"))
		case api.ConTok:
			k.Text = m.of(strings.Fields("T U A B True Int No x 1"))
		case api.IntTok:
			k.Text = m.of(strings.Fields("x q T No (C _) (f x)"))
		}
	}
	var text strings.Builder
	for _, k := range tokens {
		text.WriteString(k.Text + []string{" ", " ", "\n", " ;x\n"}[m.some(4)])
	}
	return text.String()
}

// TestTurnedTexts turns words of texts that were programs, and holds those that still are.
func TestTurnedTexts(t *testing.T) {
	held, wrong := 0, 0
	for i := range 9000 {
		m := maker{state: uint32(i), odd: 1000}
		p, pos, e := parse.Program([]byte(turned(t, &m, show.Program(m.program()))))
		if e != api.OK {
			continue
		}
		held++
		if all := allSpots(p); len(all) > 0 {
			wrong++
			pos, e = all[0].place, api.ErrScope
		}
		if at, err := Check(p); at != pos || err != e {
			t.Fatalf("%s: %d %d, not %d %d", show.Program(p), at, err, pos, e)
		}
	}
	if held < 4000 || wrong < 1500 || held-wrong < 1000 {
		t.Error("too few texts were held:", held, wrong)
	}
}

// uses are the free uses of names, each a part of the expression.
func uses(x api.Expr, bound []string) (list []api.Expr) {
	if x.Kind == api.VarE && !slices.Contains(bound, x.Name) {
		list = append(list, x)
	}
	for _, a := range x.Alts {
		var s spots
		inner := bound
		for _, n := range s.pat(api.Program{}, a.Pat) {
			inner = append(slices.Clone(inner), n.Name)
		}
		list = append(list, uses(a.Body, inner)...)
	}
	for _, a := range x.Args {
		list = append(list, uses(a, slices.Concat(bound, x.Names))...)
	}
	return list
}

// namesByPlace are the names of parts, by the places where each first comes in the text.
func namesByPlace(parts []api.Expr) (names []string) {
	slices.SortFunc(parts, func(a, b api.Expr) int { return a.Pos - b.Pos })
	for _, x := range parts {
		if !slices.Contains(names, x.Name) {
			names = append(names, x.Name)
		}
	}
	return names
}

// everyPart calls look with an expression and each part of it.
func everyPart(x api.Expr, look func(api.Expr)) {
	look(x)
	for _, a := range x.Args {
		everyPart(a, look)
	}
	for _, a := range x.Alts {
		everyPart(a.Body, look)
	}
}

// TestFreeOfMadeExpressions holds the free names of each part against the order of the text; bound by fn, none is free.
func TestFreeOfMadeExpressions(t *testing.T) {
	held, orders := 0, map[string]int{}
	for i := range 3000 {
		p, ok := made(t, i, 10+i%30)
		if !ok {
			continue
		}
		for _, d := range p.Defs {
			everyPart(d.Body, func(x api.Expr) {
				held++
				want := namesByPlace(uses(x, nil))
				orders[strings.Join(want, " ")]++
				checkFree(t, x, show.Expr(x), want)
				checkFree(t, api.Expr{Kind: api.FnE, Names: want, Args: []api.Expr{x}}, "all bound", nil)
			})
		}
	}
	if held < 10000 || len(orders) < 500 {
		t.Error("too few expressions were held:", held, len(orders))
	}
}

// TestFreeOfRightPrograms: the free names of each body are parameters and definitions.
func TestFreeOfRightPrograms(t *testing.T) {
	right, params, defs := 0, 0, 0
	for i := range 6000 {
		p, ok := made(t, i, 1000)
		if _, e := Check(p); !ok || e != api.OK {
			continue
		}
		right++
		for _, d := range p.Defs {
			for _, n := range Free(d.Body) {
				isDef := slices.ContainsFunc(p.Defs, func(d api.Def) bool { return d.Name == n })
				if slices.Contains(d.Params, n) {
					params++
				} else if isDef {
					defs++
				} else {
					t.Fatalf("%s: %s is free in %s", show.Program(p), n, d.Name)
				}
			}
		}
	}
	if right < 2000 || params < 1000 || defs < 1000 {
		t.Error("too few programs were held:", right, params, defs)
	}
}

// TestFreeNamesAreTold takes expressions whose names don't hold: their first free name is wrong, and once there is a definition of it, the next one.
func TestFreeNamesAreTold(t *testing.T) {
	told := 0
	for i := range 3000 {
		m := maker{state: uint32(i), odd: 1 << 20, cons: []api.Con{{Name: "True"}, {Name: "Two", Fields: make([]api.TypeE, 2)}}}
		s := "(def main () " + show.Expr(m.expr(4, strings.Fields("x y z f w"))) + ")(data T () (Two Int Int))"
		p, _, e := parse.Program([]byte(s))
		if e != api.OK {
			continue
		}
		for _, n := range Free(p.Defs[0].Body) {
			pos, e := Check(p)
			if at := strings.TrimLeft(s[max(pos, 0):], " "); e != api.ErrScope || !strings.HasPrefix(at, n) {
				t.Fatalf("%s: %d %d, not where %s is", s, pos, e, n)
			}
			told++
			p.Defs = append(p.Defs, api.Def{Name: n})
		}
		if pos, e := Check(p); pos != -1 || e != api.OK {
			t.Fatalf("%s: %d %d, though all names are defined", s, pos, e)
		}
	}
	if told < 1000 {
		t.Error("too few names were told:", told)
	}
}
