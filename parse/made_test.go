package parse

import (
	"reflect"
	"strconv"
	"strings"
	"testing"

	"reverie/api"
	"reverie/lex"
)

// maker writes texts by a short rule, and what they are beside them.
type maker struct {
	state uint32
	text  strings.Builder
	tight bool // whether the last token was a (
}

// some is a number below n.
func (m *maker) some(n int) int {
	m.state = m.state*1664525 + 1013904223
	return int(m.state>>8) % n
}

// write writes a token, and answers its place.
func (m *maker) write(token string) int {
	gaps := []string{" ", " ", " ", "\n\t", " ;)(\n ", "\r\n"}
	if !m.tight && token != ")" || m.some(9) == 0 {
		m.text.WriteString(gaps[m.some(len(gaps))])
	}
	m.tight = token == "("
	m.text.WriteString(token)
	return m.text.Len() - len(token)
}

// count is how many things a list has: mostly few, at times the most.
func (m *maker) count(least, most int) int {
	if m.some(12) == 0 {
		return most
	}
	return min(most, least+m.some(3))
}

func (m *maker) name() string {
	names := []string{"x", "y", "f'", "main", "xs2", "fnn", "rE"}
	s := names[m.some(len(names))]
	m.write(s)
	return s
}

func (m *maker) con() (string, int) {
	cons := []string{"A", "Nil", "Cons'", "Data", "T0"}
	s := cons[m.some(len(cons))]
	return s, m.write(s)
}

func (m *maker) number() (int64, int) {
	n := int64(m.some(2000) - 1000)
	return n, m.write(strconv.FormatInt(n, 10))
}

func (m *maker) names(least int) (names []string) {
	m.write("(")
	for range m.count(least, 8) {
		names = append(names, m.name())
	}
	m.write(")")
	return names
}

func (m *maker) typ(deep int) (y api.TypeE) {
	switch kind := m.some(4); {
	case kind == 0 || deep == 0:
		y.Name = m.name()
		y.Pos = m.text.Len() - len(y.Name)
	case kind == 1:
		y.Name, y.Pos = m.con()
	default:
		y.Pos = m.write("(")
		count := 2
		if kind == 2 {
			y.Name = "->"
			m.write("->")
		} else {
			y.Name, _ = m.con()
			count = m.count(1, 8)
		}
		for range count {
			y.Args = append(y.Args, m.typ(deep-1))
		}
		m.write(")")
	}
	return y
}

func (m *maker) pat(deep int) (p api.Pat) {
	switch kind := m.some(6); {
	case kind == 0:
		p = api.Pat{Kind: api.WildP, Pos: m.write("_")}
	case kind == 1:
		p.Kind = api.IntP
		p.Int, p.Pos = m.number()
	case kind == 2:
		p.Kind = api.ConP
		p.Name, p.Pos = m.con()
	case kind == 3 || deep == 0:
		p.Kind, p.Name = api.VarP, m.name()
		p.Pos = m.text.Len() - len(p.Name)
	default:
		p.Kind, p.Pos = api.ConP, m.write("(")
		p.Name, _ = m.con()
		for range m.count(1, 8) {
			p.Args = append(p.Args, m.pat(deep-1))
		}
		m.write(")")
	}
	return p
}

func (m *maker) expr(deep int) (x api.Expr) {
	kind := m.some(12)
	if deep == 0 {
		kind = m.some(3)
	}
	switch kind {
	case 0:
		x.Kind = api.IntE
		x.Int, x.Pos = m.number()
		return x
	case 1:
		x.Kind = api.ConE
		x.Name, x.Pos = m.con()
		return x
	case 2:
		x.Kind, x.Name = api.VarE, m.name()
		x.Pos = m.text.Len() - len(x.Name)
		return x
	}
	x.Pos = m.write("(")
	m.inList(&x, kind, deep-1)
	m.write(")")
	return x
}

func (m *maker) inList(x *api.Expr, kind, deep int) {
	count := 0
	switch kind {
	case 3:
		x.Kind = api.FnE
		m.write("fn")
		x.Names, count = m.names(1), 1
	case 4, 5:
		x.Kind = api.LetE
		m.write("let")
		m.write("(")
		for range m.count(1, 8) {
			m.write("(")
			x.Names = append(x.Names, m.name())
			x.Args = append(x.Args, m.expr(deep))
			m.write(")")
		}
		m.write(")")
		count = 1
	case 6, 7:
		x.Kind = api.CaseE
		m.write("case")
		x.Args = append(x.Args, m.expr(deep))
		for range m.count(1, 16) {
			m.write("(")
			x.Alts = append(x.Alts, api.Alt{Pat: m.pat(3), Body: m.expr(deep)})
			m.write(")")
		}
	case 8:
		x.Kind = api.ConE
		x.Name, _ = m.con()
		count = m.count(1, 8)
	case 9:
		two := []string{"+", "-", "*", "/", "%", "=", "<", "cpx", "cadd", "cmul"}
		x.Kind, x.Name, count = api.PrimE, two[m.some(len(two))], 2
		m.write(x.Name)
	case 10:
		x.Kind, x.Name, count = api.PrimE, []string{"re", "im"}[m.some(2)], 1
		m.write(x.Name)
	default:
		x.Kind = api.AppE
		head := m.expr(deep)
		if head.Kind == api.ConE && head.Args == nil { // then it is written as a constructor with arguments is
			x.Kind, x.Name = api.ConE, head.Name
		} else {
			x.Args = append(x.Args, head)
		}
		count = m.count(1, 8)
	}
	for range count {
		x.Args = append(x.Args, m.expr(deep))
	}
}

func (m *maker) program() (p api.Program) {
	for range m.some(4) {
		pos := m.write("(")
		if m.some(3) > 0 {
			m.write("def")
			p.Defs = append(p.Defs, api.Def{Pos: pos, Name: m.name(), Params: m.names(0), Body: m.expr(3)})
		} else {
			m.write("data")
			d := api.Data{Pos: pos}
			d.Name, _ = m.con()
			d.Params = m.names(0)
			for range 1 + m.some(5) {
				c := api.Con{Pos: m.write("(")}
				c.Name, _ = m.con()
				for range m.count(0, 8) {
					c.Fields = append(c.Fields, m.typ(2))
				}
				m.write(")")
				d.Cons = append(d.Cons, c)
			}
			p.Datas = append(p.Datas, d)
		}
		m.write(")")
	}
	return p
}

func TestMadePrograms(t *testing.T) {
	held := 0
	for i := range 4000 {
		m := maker{state: uint32(i)}
		want := m.program()
		s := m.text.String() + []string{"", "\n", "; (", " "}[i%4]
		if len(s) <= api.MaxSource {
			checkProgram(t, s, want)
			held++
		}
	}
	if held < 2000 {
		t.Error("too few texts were held:", held)
	}
}

func TestMadeExpressions(t *testing.T) {
	held := 0
	for i := range 4000 {
		m := maker{state: uint32(i)}
		want := m.expr(3)
		if s := m.text.String(); len(s) <= api.MaxSource {
			checkExpr(t, s, want)
			held++
		}
	}
	if held < 2000 {
		t.Error("too few texts were held:", held)
	}
}

// TestTurnedTexts turns some tokens of texts that are right, and asks where they are wrong by the document's grammar.
func TestTurnedTexts(t *testing.T) {
	words := strings.Fields("( ) ( ) ( ) () (f -> + re _ 1 x C fn let case def data (def (C (x)")
	for i := range 20000 {
		m := maker{state: uint32(i)}
		if i%2 == 0 {
			m.program()
		} else {
			m.expr(3)
		}
		tokens, _, _ := lex.Tokens([]byte(m.text.String()))
		var texts []string
		for _, k := range tokens {
			texts = append(texts, k.Text)
		}
		for range 1 + m.some(2) {
			texts = turn(&m, texts, words)
		}
		if s := strings.Join(texts, " "); len(s) <= api.MaxSource {
			checkGrammar(t, s)
		}
	}
}

// turn leaves out a token, writes one twice, puts one in, or another one in its place.
func turn(m *maker, texts, words []string) []string {
	at := m.some(len(texts) + 1)
	before, after := texts[:at:at], texts[at:]
	word := words[m.some(len(words))]
	switch m.some(4) {
	case 0:
		return append(append(before, word), after...)
	case 1:
		return append(append(before, word), after[min(1, len(after)):]...)
	case 2:
		return append(before, after[min(1, len(after)):]...)
	}
	return append(append(before, after[:min(1, len(after))]...), after...)
}

// TestMixedTexts mixes tokens into texts of all lengths, so that each call ends with an answer.
func TestMixedTexts(t *testing.T) {
	words := strings.Fields("( ( ( ) ) ) -> + - * / % = < re im cpx cadd cmul _ 1 -2 x y f C D fn let case def data (def (data (case (let (fn () (x)")
	for i := range 5000 {
		m := maker{state: uint32(i)}
		var texts []string
		for range m.some(60) {
			texts = append(texts, words[m.some(len(words))])
		}
		checkGrammar(t, strings.Join(texts, " "))
	}
}

// TestWrittenAgain writes what a made text is by a plain rule, and asks for the same but for the places.
func TestWrittenAgain(t *testing.T) {
	for i := range 1000 {
		m := maker{state: uint32(i)}
		p := m.program()
		s := written(p)
		if len(s) > api.MaxSource {
			continue
		}
		again, pos, e := Program([]byte(s))
		if e != api.OK || pos != -1 || !reflect.DeepEqual(movedToZero(again), movedToZero(p)) {
			t.Fatalf("%q: %+v %d %d, not %+v", s, again, pos, e, p)
		}
	}
}

func list(texts ...string) string { return "(" + strings.Join(texts, " ") + ")" }

func all[T any](parts []T, write func(T) string, before ...string) string {
	for _, p := range parts {
		before = append(before, write(p))
	}
	return list(before...)
}

func same(s string) string { return s }

func written(p api.Program) (s string) {
	for _, d := range p.Datas {
		writeCon := func(c api.Con) string { return all(c.Fields, writtenType, c.Name) }
		s += all(d.Cons, writeCon, "data", d.Name, all(d.Params, same)) + "\n"
	}
	for _, d := range p.Defs {
		s += list("def", d.Name, all(d.Params, same), writtenExpr(d.Body)) + "\n"
	}
	return s
}

func writtenType(y api.TypeE) string {
	if len(y.Args) == 0 {
		return y.Name
	}
	return all(y.Args, writtenType, y.Name)
}

func writtenPat(p api.Pat) string {
	switch {
	case p.Kind == api.WildP:
		return "_"
	case p.Kind == api.IntP:
		return strconv.FormatInt(p.Int, 10)
	case len(p.Args) == 0:
		return p.Name
	}
	return all(p.Args, writtenPat, p.Name)
}

func writtenExpr(x api.Expr) string {
	switch x.Kind {
	case api.IntE:
		return strconv.FormatInt(x.Int, 10)
	case api.FnE:
		return list("fn", all(x.Names, same), writtenExpr(x.Args[0]))
	case api.LetE:
		var pairs []string
		for i, n := range x.Names {
			pairs = append(pairs, list(n, writtenExpr(x.Args[i])))
		}
		return list("let", list(pairs...), writtenExpr(x.Args[len(x.Names)]))
	case api.CaseE:
		pair := func(a api.Alt) string { return list(writtenPat(a.Pat), writtenExpr(a.Body)) }
		return all(x.Alts, pair, "case", writtenExpr(x.Args[0]))
	case api.AppE:
		return all(x.Args, writtenExpr)
	}
	if len(x.Args) == 0 {
		return x.Name
	}
	return all(x.Args, writtenExpr, x.Name)
}
