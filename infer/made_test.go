package infer

import (
	"fmt"
	"slices"
	"strings"
	"testing"

	"reverie/api"
	"reverie/parse"
	"reverie/show"
	"reverie/unify"
)

// maker makes programs by a short rule. Most of their expressions have the type for which they are made; one in odd of them is made for any.
type maker struct {
	state uint32
	odd   int
	datas []api.Data
	holds []known
	last  int // the last new name's number
}

// known is a name that holds, and the type for which what it stands for was made.
type known struct {
	name string
	t    api.Type
}

// some is a number below n.
func (m *maker) some(n int) int {
	m.state = m.state*1664525 + 1013904223
	return int(m.state>>8) % n
}

// name is one of few, or a new one.
func (m *maker) name() string {
	if m.some(3) == 0 {
		return []string{"x", "y", "f", "g"}[m.some(4)]
	}
	m.last++
	return fmt.Sprint("n", m.last)
}

func (m *maker) typ(deep int) api.Type {
	kind := m.some(8)
	if deep == 0 {
		kind = m.some(3)
	}
	switch kind {
	case 0, 1, 2:
		return unify.Of([]string{"Int", "Bool", "Cpx"}[kind])
	case 3, 4:
		return unify.Fn(m.typ(deep-1), m.typ(deep-1))
	}
	d := m.datas[m.some(len(m.datas))]
	var args []api.Type
	for range d.Params {
		args = append(args, m.typ(deep-1))
	}
	return unify.Of(d.Name, args...)
}

func (m *maker) isOdd() bool { return m.some(m.odd) == 0 }

// hold lets names hold while something is made.
func (m *maker) hold(names []string, types []api.Type, make func()) {
	outer := len(m.holds)
	for i, n := range names {
		m.holds = append(m.holds, known{n, types[i]})
	}
	make()
	m.holds = m.holds[:outer]
}

// found is a name that holds and has a type; mostly the type that is asked for.
func (m *maker) found(t api.Type) (api.Expr, bool) {
	text, any := unify.Text(t), m.isOdd()
	var list []string
	hidden := map[string]bool{}
	for _, h := range slices.Backward(m.holds) {
		if !hidden[h.name] && (any || unify.Text(h.t) == text) {
			list = append(list, h.name)
		}
		hidden[h.name] = true
	}
	if len(list) == 0 {
		return api.Expr{}, false
	}
	return api.Expr{Kind: api.VarE, Name: list[m.some(len(list))]}, true
}

func (m *maker) expr(t api.Type, deep int) api.Expr {
	if m.isOdd() {
		t = m.typ(1)
	}
	if x, ok := m.found(t); ok && (deep <= 0 || m.some(3) == 0) {
		return x
	}
	if deep <= 0 {
		return m.small(t)
	}
	switch m.some(8) {
	case 0, 1:
		return m.let(t, deep)
	case 2, 3:
		return m.caseOf(t, deep)
	case 4:
		return m.app(t, deep)
	}
	return m.whole(t, deep)
}

// small is an expression of few parts.
func (m *maker) small(t api.Type) api.Expr {
	switch t.Name {
	case "Int":
		return api.Expr{Kind: api.IntE, Int: int64(m.some(9))}
	case "Bool":
		return api.Expr{Kind: api.ConE, Name: []string{"True", "False"}[m.some(2)]}
	case "->":
		return m.whole(t, 0)
	}
	return api.Expr{Kind: api.LetE, Names: []string{"x"}, Args: []api.Expr{{Kind: api.VarE, Name: "x"}, {Kind: api.VarE, Name: "x"}}}
}

func (m *maker) let(t api.Type, deep int) api.Expr {
	x := api.Expr{Kind: api.LetE}
	var types []api.Type
	for range 1 + m.some(2) {
		if n := m.name(); !slices.Contains(x.Names, n) {
			x.Names, types = append(x.Names, n), append(types, m.typ(2))
		}
	}
	m.hold(x.Names, types, func() {
		for _, one := range append(types, t) {
			x.Args = append(x.Args, m.expr(one, deep-1))
		}
	})
	return x
}

func (m *maker) caseOf(t api.Type, deep int) api.Expr {
	looked := m.typ(2)
	x := api.Expr{Kind: api.CaseE, Args: []api.Expr{m.expr(looked, deep-1)}}
	for range 1 + m.some(3) {
		var names []string
		var types []api.Type
		a := api.Alt{Pat: m.pat(looked, 2, &names, &types)}
		m.hold(names, types, func() { a.Body = m.expr(t, deep-1) })
		x.Alts = append(x.Alts, a)
	}
	return x
}

func (m *maker) pat(t api.Type, deep int, names *[]string, types *[]api.Type) api.Pat {
	kind := m.some(4)
	n := m.name()
	switch d, args := m.data(t); {
	case kind == 0 && !slices.Contains(*names, n):
		*names, *types = append(*names, n), append(*types, t)
		return api.Pat{Kind: api.VarP, Name: n}
	case t.Name == "Int" && kind == 1 || m.isOdd():
		return api.Pat{Kind: api.IntP, Int: int64(m.some(3))}
	case t.Name == "Bool" && kind == 1:
		return api.Pat{Kind: api.ConP, Name: "True"}
	case deep > 0 && d.Cons != nil && kind > 1:
		k := d.Cons[m.some(len(d.Cons))]
		p := api.Pat{Kind: api.ConP, Name: k.Name}
		for _, f := range k.Fields {
			p.Args = append(p.Args, m.pat(written2(f, d.Params, args), deep-1, names, types))
		}
		return p
	}
	return api.Pat{Kind: api.WildP}
}

func (m *maker) data(t api.Type) (api.Data, []api.Type) {
	for _, d := range m.datas {
		if d.Name == t.Name {
			return d, t.Args
		}
	}
	return api.Data{}, nil
}

func (m *maker) app(t api.Type, deep int) api.Expr {
	var args []api.Expr
	for range 1 + m.some(2) {
		of := m.typ(1)
		args = append(args, m.expr(of, deep-1))
		t = unify.Fn(of, t)
	}
	head := m.expr(t, deep-1)
	if head.Kind == api.ConE && head.Args == nil { // a constructor takes none here
		return head
	}
	slices.Reverse(args)
	return api.Expr{Kind: api.AppE, Args: append([]api.Expr{head}, args...)}
}

// whole is an expression that is a function, a constructor, or an operation.
func (m *maker) whole(t api.Type, deep int) api.Expr {
	if d, args := m.data(t); d.Cons != nil {
		k := d.Cons[m.some(len(d.Cons))]
		x := api.Expr{Kind: api.ConE, Name: k.Name}
		for _, f := range k.Fields {
			x.Args = append(x.Args, m.expr(written2(f, d.Params, args), deep-1))
		}
		return x
	}
	if t.Name == "->" {
		x := api.Expr{Kind: api.FnE}
		var types []api.Type
		for t.Name == "->" && len(types) < 3 {
			n := m.name()
			if slices.Contains(x.Names, n) {
				break
			}
			x.Names, types, t = append(x.Names, n), append(types, t.Args[0]), t.Args[1]
		}
		m.hold(x.Names, types, func() { x.Args = []api.Expr{m.expr(t, deep-1)} })
		return x
	}
	ops := map[string][]string{"Int": {"+", "-", "*", "/", "%", "re", "im"}, "Bool": {"=", "<"}, "Cpx": {"cpx", "cadd", "cmul"}}[t.Name]
	x := api.Expr{Kind: api.PrimE, Name: ops[m.some(len(ops))]}
	takes := "Int"
	if slices.Contains([]string{"re", "im", "cadd", "cmul"}, x.Name) {
		takes = "Cpx"
	}
	for range api.Prims()[x.Name] {
		x.Args = append(x.Args, m.expr(unify.Of(takes), deep-1))
	}
	return x
}

func (m *maker) program() api.Program {
	names := []string{"f", "g", "main", "h", "k"}[m.some(3):]
	var types []api.Type
	for range names {
		types = append(types, m.typ(2))
	}
	p := api.Program{Datas: m.datas}
	m.hold(names, types, func() {
		for i, n := range names {
			d := api.Def{Name: n}
			x := m.expr(types[i], 4)
			if d.Body = x; x.Kind == api.FnE && n != "main" {
				d.Params, d.Body = x.Names, x.Args[0]
			}
			p.Defs = append(p.Defs, d)
		}
	})
	return p
}

// made is a program as layer 2 answers it; false, if its text is too long.
func made(t *testing.T, state, odd int) (api.Program, bool) {
	t.Helper()
	all := parsed(t, datas+"(def main () 1)").Datas
	m := maker{state: uint32(state), odd: odd}
	for range 5 {
		if d := all[m.some(len(all))]; !slices.ContainsFunc(m.datas, func(o api.Data) bool { return o.Name == d.Name }) {
			m.datas = append(m.datas, d)
		}
	}
	for _, d := range all { // each type's fields are of types that there are
		if text := show.Program(api.Program{Datas: m.datas}); strings.Contains(text, d.Name) && !slices.ContainsFunc(m.datas, func(o api.Data) bool { return o.Name == d.Name }) {
			m.datas = append(m.datas, d)
		}
	}
	s := show.Program(m.program())
	if len(s) > api.MaxSource {
		return api.Program{}, false
	}
	if _, pos, e := parse.Program([]byte(s)); e != api.OK {
		t.Fatalf("%s: no program: %d at %d", s, e, pos)
	}
	return parsed(t, s), true
}

// TestMadePrograms holds programs against the plainest way to find their types.
func TestMadePrograms(t *testing.T) {
	t.Parallel()
	held, right, answers := 0, 0, map[string]int{}
	for i := range 3000 {
		p, ok := made(t, i, []int{30, 100, 400, 4000}[i%4])
		if !ok {
			continue
		}
		held++
		got := answer(t, p)
		if want := plainAnswer(p); got != want {
			t.Fatalf("%s: %s, not %s", show.Program(p), got, want)
		}
		if !strings.HasPrefix(got, "none") {
			right++
		}
		answers[got]++
	}
	if held < 2500 || right < 1200 || held-right < 800 || len(answers) < 1200 {
		t.Error("too few programs of a kind were held:", held, right, len(answers))
	}
}

// greatExpr is an expression of great values, and of names, that mostly has a type, if that isn't too great.
func (m *maker) greatExpr(deep int, holds []string) string {
	kind := m.some(10)
	if deep == 0 {
		kind = m.some(2)
	}
	one := func() string { return m.greatExpr(deep-1, holds) }
	n := m.name()
	with := func() string { return m.greatExpr(deep-1, append(holds[:len(holds):len(holds)], n)) }
	switch kind {
	case 0:
		return fmt.Sprint("v", []int{1, 61, 124, 249, 249, 499, 500}[m.some(7)])
	case 1:
		return append(holds, "1")[m.some(len(holds)+1)]
	case 2:
		return "(P " + one() + " " + one() + ")"
	case 3:
		return "(T " + one() + " " + one() + " " + one() + ")"
	case 4:
		return "(fn (" + n + ") " + with() + ")"
	case 5:
		return "(let ((" + n + " " + with() + ")) " + with() + ")"
	case 6:
		return "(case " + one() + " (" + n + " " + with() + "))"
	case 7:
		return "(case (G " + one() + ") ((F " + n + ") (k " + with() + ")) (_ 1))"
	case 8:
		return "(case (case 1 (1 " + append(holds, "1")[m.some(len(holds)+1)] + ") (_ " + one() + ")) (_ " + one() + "))"
	}
	return "(k " + one() + ")"
}

// TestMadeGreatPrograms holds programs whose types have some 1000 parts against the plainest way.
func TestMadeGreatPrograms(t *testing.T) {
	t.Parallel()
	base := greats + strings.Join(value(500), "")
	held, right := 0, 0
	for i := range 300 {
		m := maker{state: uint32(i)}
		p := parsed(t, base+"(def it (x) "+m.greatExpr(4, []string{"x"})+")")
		got := answer(t, p)
		if want := plainAnswer(p); got != want {
			t.Fatalf("%s: %s, not %s", show.Program(p), got, want)
		}
		if held++; !strings.HasPrefix(got, "none") {
			right++
		}
	}
	if right < 100 || held-right < 100 {
		t.Error("too few programs of a kind were held:", held, right)
	}
}
