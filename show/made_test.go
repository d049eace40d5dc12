package show

import (
	"reflect"
	"strconv"
	"strings"
	"testing"

	"reverie/api"
	"reverie/lex"
	"reverie/parse"
)

// maker makes parts such as layer 2 answers, by a short rule.
type maker struct{ state uint32 }

// some is a number below n.
func (m *maker) some(n int) int {
	m.state = m.state*1664525 + 1013904223
	return int(m.state>>8) % n
}

// count is how many things a list has: mostly few, at times the most.
func (m *maker) count(least, most int) int {
	if m.some(12) == 0 {
		return most
	}
	return min(most, least+m.some(3))
}

func (m *maker) of(words string) string {
	list := strings.Fields(words)
	return list[m.some(len(list))]
}

func (m *maker) name() string { return m.of("x y f' main xs2 fnn rE fail a") }
func (m *maker) con() string  { return m.of("A Nil Cons' Data T0") }
func (m *maker) int() int64 {
	const most = 999999999999999999 // of 18 digits
	return []int64{0, -1, int64(m.some(100)), int64(-m.some(100000)), most, -most}[m.some(6)]
}

func times[T any](count int, part func() T) (parts []T) {
	for range count {
		parts = append(parts, part())
	}
	return parts
}

func (m *maker) names(least int) []string { return times(m.count(least, api.MaxArgs), m.name) }

func (m *maker) typ(deep int) api.TypeE {
	inner := func() api.TypeE { return m.typ(deep - 1) }
	switch kind := m.some(4); {
	case kind == 0 || deep == 0:
		return api.TypeE{Name: m.name()}
	case kind == 1:
		return api.TypeE{Name: "->", Args: times(2, inner)}
	case kind == 2:
		return api.TypeE{Name: m.con()}
	}
	return api.TypeE{Name: m.con(), Args: times(m.count(1, api.MaxArgs), inner)}
}

func (m *maker) pat(deep int) api.Pat {
	kind := m.some(5)
	switch {
	case kind < 2:
		return api.Pat{Kind: api.VarP, Name: m.name()}
	case kind == 2:
		return api.Pat{Kind: api.WildP}
	case kind == 3:
		return api.Pat{Kind: api.IntP, Int: m.int()}
	}
	p := api.Pat{Kind: api.ConP, Name: m.con()}
	if deep > 0 {
		p.Args = times(m.count(0, api.MaxArgs), func() api.Pat { return m.pat(deep - 1) })
	}
	return p
}

func (m *maker) expr(deep int) api.Expr {
	inner := func() api.Expr { return m.expr(deep - 1) }
	kind := m.some(10)
	if deep == 0 {
		kind = m.some(3)
	}
	switch kind {
	case 0:
		return num(m.int())
	case 1:
		return variable(m.name())
	case 2:
		return construct(m.con())
	case 3:
		return construct(m.con(), times(m.count(1, api.MaxArgs), inner)...)
	case 4:
		return function(inner(), m.names(1)...)
	case 5:
		names := m.names(1)
		return letIn(names, times(len(names)+1, inner)...)
	case 6:
		alt := func() api.Alt { return api.Alt{Pat: m.pat(2), Body: inner()} }
		return cases(inner(), times(m.count(1, 16), alt)...)
	case 7:
		name := m.of("+ - * / % = < cpx re im cadd cmul")
		return prim(name, times(api.Prims()[name], inner)...)
	}
	head := inner()
	for head.Kind == api.ConE && head.Args == nil { // with arguments that would be a constructor's
		head = inner()
	}
	return apply(append([]api.Expr{head}, times(m.count(1, api.MaxArgs), inner)...)...)
}

func (m *maker) program() api.Program {
	con := func() api.Con {
		field := func() api.TypeE { return m.typ(2) }
		return api.Con{Name: m.con(), Fields: times(m.count(0, api.MaxArgs), field)}
	}
	data := func() api.Data {
		return api.Data{Name: m.con(), Params: m.names(0), Cons: times(1+m.some(5), con)}
	}
	def := func() api.Def { return api.Def{Name: m.name(), Params: m.names(0), Body: m.expr(m.some(4))} }
	return api.Program{Datas: times(m.some(3), data), Defs: times(m.some(4), def)}
}

// spaced is a text's tokens as the document writes lists: a blank between two nodes, and a line's end behind each list that stands in none.
func spaced(t *testing.T, s string) string {
	t.Helper()
	tokens, _, e := lex.Tokens([]byte(s))
	if e != api.OK {
		t.Fatalf("%q: error %d", s, e)
	}
	var b strings.Builder
	depth := 0
	for i, k := range tokens {
		if i > 0 && depth > 0 && tokens[i-1].Kind != api.OpenTok && k.Kind != api.CloseTok {
			b.WriteByte(' ')
		}
		switch k.Kind {
		case api.OpenTok:
			depth++
		case api.CloseTok:
			depth--
		}
		if k.Kind == api.IntTok {
			b.WriteString(strconv.FormatInt(k.Int, 10))
		} else {
			b.WriteString(k.Text)
		}
		if depth == 0 {
			b.WriteByte('\n')
		}
	}
	return b.String()
}

// unplaced has 0 for each place, as layer 2 is asked for the same but for places.
func unplaced[T any](part T) T {
	unplace(reflect.ValueOf(&part).Elem())
	return part
}

func unplace(v reflect.Value) {
	switch v.Kind() {
	case reflect.Slice:
		for i := range v.Len() {
			unplace(v.Index(i))
		}
	case reflect.Struct:
		for i := range v.NumField() {
			if v.Type().Field(i).Name == "Pos" {
				v.Field(i).SetInt(0)
			} else {
				unplace(v.Field(i))
			}
		}
	}
}

func TestMadeProgramsAreParsed(t *testing.T) {
	held := 0
	for i := range 4000 {
		m := maker{state: uint32(i)}
		want := m.program()
		s := Program(want)
		if len(s) > api.MaxSource { // layer 2 takes no more
			continue
		}
		held++
		p, pos, e := parse.Program([]byte(s))
		if e != api.OK || pos != -1 || !reflect.DeepEqual(unplaced(p), want) {
			t.Fatalf("%q: %+v %d %d, not %+v", s, p, pos, e, want)
		}
		if again := Program(p); again != s || spaced(t, s) != s {
			t.Fatalf("%q, and then %q", s, again)
		}
	}
	if held < 2000 {
		t.Error("too few texts were held:", held)
	}
}

func TestMadeExpressionsAreParsed(t *testing.T) {
	held := 0
	for i := range 4000 {
		m := maker{state: uint32(i)}
		want := m.expr(3)
		s := Expr(want)
		if len(s) > api.MaxSource {
			continue
		}
		held++
		x, pos, e := parse.Expr([]byte(s))
		if e != api.OK || pos != -1 || !reflect.DeepEqual(unplaced(x), want) {
			t.Fatalf("%q: %+v %d %d, not %+v", s, x, pos, e, want)
		}
		if again := Expr(x); again != s || spaced(t, s) != s+"\n" {
			t.Fatalf("%q, and then %q", s, again)
		}
	}
	if held < 2000 {
		t.Error("too few texts were held:", held)
	}
}

// TestMadeParts holds patterns, types and definitions against the text of the whole that they stand in.
func TestMadeParts(t *testing.T) {
	for i := range 2000 {
		m := maker{state: uint32(i)}
		p, y, x := m.pat(3), m.typ(3), m.expr(2)
		checkText(t, Expr, cases(x, api.Alt{Pat: p, Body: x}), "(case "+Expr(x)+" ("+Pat(p)+" "+Expr(x)+"))")
		d := api.Data{Name: "T", Params: []string{"a"}, Cons: []api.Con{{Name: "C", Fields: []api.TypeE{y, y}}}}
		checkText(t, Data, d, "(data T (a) (C "+Type(y)+" "+Type(y)+"))")
		f := api.Def{Name: "f", Params: []string{"a"}, Body: x}
		checkText(t, Def, f, "(def f (a) "+Expr(x)+")")
		checkText(t, Program, api.Program{Datas: []api.Data{d}, Defs: []api.Def{f, f}}, Data(d)+"\n"+Def(f)+"\n"+Def(f)+"\n")
	}
}

// TestTextsOfOtherLayouts writes texts with other blanks, with notes, and with needless noughts, as plainly as any.
func TestTextsOfOtherLayouts(t *testing.T) {
	gaps := []string{" ", "  ", "\n", "\t", "\r\n", ";)(\n", " ; (def\n\n"}
	for i := range 2000 {
		m := maker{state: uint32(i)}
		p := m.program()
		tokens, _, e := lex.Tokens([]byte(Program(p)))
		if e != api.OK {
			continue
		}
		var b strings.Builder
		for _, k := range tokens {
			text := k.Text
			if k.Kind == api.IntTok && len(text) < 10 {
				text = strings.Replace("000"+text, "000-", "-00", 1)
			}
			b.WriteString(text + gaps[m.some(len(gaps))])
		}
		if s := b.String(); len(s) <= api.MaxSource {
			again, _, e := parse.Program([]byte(s))
			if e != api.OK || Program(again) != Program(p) {
				t.Fatalf("%q: %d %q", s, e, Program(again))
			}
		}
	}
}

// TestTypesComeFirst turns types and definitions about: only the types' place ahead of the definitions is the text's own.
func TestTypesComeFirst(t *testing.T) {
	for i := range 500 {
		m := maker{state: uint32(i)}
		p := m.program()
		s := Program(api.Program{Defs: p.Defs}) + Program(api.Program{Datas: p.Datas})
		if len(s) > api.MaxSource {
			continue
		}
		if again, _, e := parse.Program([]byte(s)); e != api.OK || Program(again) != Program(p) {
			t.Fatalf("%q: %d %q", s, e, Program(again))
		}
	}
}

// treeText is a tree's text by the document's words alone.
func treeText(t api.Tree) string {
	if t.Name == "" {
		return strconv.FormatInt(t.Int, 10)
	}
	nodes := []string{t.Name}
	if t.Name == "cpx" {
		nodes = append(nodes, strconv.FormatInt(t.Re, 10), strconv.FormatInt(t.Im, 10))
	} else {
		for _, a := range t.Args {
			nodes = append(nodes, treeText(a))
		}
	}
	if len(nodes) == 1 {
		return t.Name
	}
	return "(" + strings.Join(nodes, " ") + ")"
}

func (m *maker) tree(deep int) api.Tree {
	t := api.Tree{Int: m.int(), Re: m.int(), Im: m.int()}
	if m.some(3) > 0 {
		t.Name = m.of("cpx A Cons Nil cpx x -> ( _ 7")
	}
	if deep > 0 {
		t.Args = times(m.some(4), func() api.Tree { return m.tree(deep - 1) })
	}
	return t
}

func TestMadeTrees(t *testing.T) {
	for i := range 4000 {
		m := maker{state: uint32(i)}
		made := m.tree(5)
		checkText(t, Tree, made, treeText(made))
	}
}

const deep = 1 << 16

// checkNested has a part in lists, deep times over, and asks for as much text ahead of it and behind.
func checkNested[T any](t *testing.T, text func(T) string, part T, wrap func(T) T, ahead, behind string) {
	t.Helper()
	want := strings.Repeat(ahead, deep) + text(part) + strings.Repeat(behind, deep)
	for range deep {
		part = wrap(part)
	}
	if s := text(part); s != want {
		t.Errorf("%s part %s deep: %d bytes, not %d", ahead, behind, len(s), len(want))
	}
}

func TestDeepParts(t *testing.T) {
	checkNested(t, Tree, number(1), func(a api.Tree) api.Tree { return made("S", a) }, "(S ", ")")
	checkNested(t, Type, typ("a"), func(a api.TypeE) api.TypeE { return typeOf("->", a, typ("b")) }, "(-> ", " b)")
	checkNested(t, Pat, anyP(), func(a api.Pat) api.Pat { return conP("S", a) }, "(S ", ")")
	checkNested(t, Expr, num(1), func(a api.Expr) api.Expr { return apply(a, num(2)) }, "(", " 2)")
	checkNested(t, Expr, num(1), func(a api.Expr) api.Expr { return prim("+", num(2), a) }, "(+ 2 ", ")")
	checkNested(t, Expr, num(1), func(a api.Expr) api.Expr { return construct("S", a) }, "(S ", ")")
	checkNested(t, Expr, num(1), func(a api.Expr) api.Expr { return function(a, "x") }, "(fn (x) ", ")")
	checkNested(t, Expr, num(1), func(a api.Expr) api.Expr { return letIn([]string{"x"}, num(2), a) }, "(let ((x 2)) ", ")")
	checkNested(t, Expr, num(1), func(a api.Expr) api.Expr { return letIn([]string{"x"}, a, num(2)) }, "(let ((x ", ")) 2)")
	checkNested(t, Expr, num(1), func(a api.Expr) api.Expr { return cases(a, api.Alt{Body: num(2)}) }, "(case ", " (_ 2))")
	checkNested(t, Expr, num(1), func(a api.Expr) api.Expr { return cases(num(2), api.Alt{Body: a}) }, "(case 2 (_ ", "))")
}

// TestVeryDeepTree has a tree that no calls within calls could write.
func TestVeryDeepTree(t *testing.T) {
	const depth = 1 << 22
	tree := number(1)
	for range depth {
		tree = made("S", tree)
	}
	if s := Tree(tree); len(s) != 4*depth+1 || s[3*depth:3*depth+5] != "1))))" {
		t.Error("a very deep tree isn't written so:", len(s))
	}
}

func TestWideParts(t *testing.T) {
	checkText(t, Tree, made("T", make([]api.Tree, deep)...), "(T"+strings.Repeat(" 0", deep)+")")
	if s := Expr(apply(make([]api.Expr, deep)...)); s != "(0"+strings.Repeat(" 0", deep-1)+")" {
		t.Error("a wide application isn't written so:", len(s))
	}
	if s := Program(api.Program{Defs: make([]api.Def, deep)}); strings.Count(s, "\n") != deep {
		t.Error("a long program isn't written so:", len(s))
	}
}
