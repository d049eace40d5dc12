package parse

import (
	"bytes"
	"reflect"
	"strconv"
	"strings"
	"testing"

	"reverie/api"
)

func num(pos int, n int64) api.Expr { return api.Expr{Kind: api.IntE, Pos: pos, Int: n} }
func variable(pos int, name string) api.Expr {
	return api.Expr{Kind: api.VarE, Pos: pos, Name: name}
}
func construct(pos int, name string, args ...api.Expr) api.Expr {
	return api.Expr{Kind: api.ConE, Pos: pos, Name: name, Args: args}
}
func apply(pos int, args ...api.Expr) api.Expr {
	return api.Expr{Kind: api.AppE, Pos: pos, Args: args}
}
func prim(pos int, name string, args ...api.Expr) api.Expr {
	return api.Expr{Kind: api.PrimE, Pos: pos, Name: name, Args: args}
}
func function(pos int, names []string, body api.Expr) api.Expr {
	return api.Expr{Kind: api.FnE, Pos: pos, Names: names, Args: []api.Expr{body}}
}
func letIn(pos int, names []string, args ...api.Expr) api.Expr {
	return api.Expr{Kind: api.LetE, Pos: pos, Names: names, Args: args}
}
func cases(pos int, on api.Expr, alts ...api.Alt) api.Expr {
	return api.Expr{Kind: api.CaseE, Pos: pos, Args: []api.Expr{on}, Alts: alts}
}
func typ(pos int, name string, args ...api.TypeE) api.TypeE {
	return api.TypeE{Pos: pos, Name: name, Args: args}
}

func checkExpr(t *testing.T, s string, want api.Expr) {
	t.Helper()
	if x, pos, e := Expr([]byte(s)); e != api.OK || pos != -1 || !reflect.DeepEqual(x, want) {
		t.Errorf("%q: %+v %d %d, not %+v", s, x, pos, e, want)
	}
}

func checkProgram(t *testing.T, s string, want api.Program) {
	t.Helper()
	if p, pos, e := Program([]byte(s)); e != api.OK || pos != -1 || !reflect.DeepEqual(p, want) {
		t.Errorf("%q: %+v %d %d, not %+v", s, p, pos, e, want)
	}
}

func checkWrongExpr(t *testing.T, s string, at int, err api.Errno) {
	t.Helper()
	if x, pos, e := Expr([]byte(s)); e != err || pos != at || !reflect.DeepEqual(x, api.Expr{}) {
		t.Errorf("%q: %+v %d %d, not error %d at %d", s, x, pos, e, err, at)
	}
}

func checkWrongProgram(t *testing.T, s string, at int, err api.Errno) {
	t.Helper()
	if p, pos, e := Program([]byte(s)); e != err || pos != at || !reflect.DeepEqual(p, api.Program{}) {
		t.Errorf("%q: %+v %d %d, not error %d at %d", s, p, pos, e, err, at)
	}
}

func TestAtoms(t *testing.T) {
	checkExpr(t, "42", num(0, 42))
	checkExpr(t, " -7 ; seven\n", num(1, -7))
	checkExpr(t, "999999999999999999", num(0, 999999999999999999))
	checkExpr(t, "x", variable(0, "x"))
	for _, s := range []string{"main", "f'", "fnx", "fn'", "datum", "lets", "re'", "cpx2", "cadD"} {
		checkExpr(t, s, variable(0, s))
	}
	for _, s := range []string{"True", "Data", "Fn", "Re", "C'"} {
		checkExpr(t, s, construct(0, s))
	}
}

func TestApplications(t *testing.T) {
	checkExpr(t, "(f x)", apply(0, variable(1, "f"), variable(3, "x")))
	checkExpr(t, " (f 1 Nil)", apply(1, variable(2, "f"), num(4, 1), construct(6, "Nil")))
	checkExpr(t, "((f x) y)", apply(0, apply(1, variable(2, "f"), variable(4, "x")), variable(7, "y")))
	checkExpr(t, "(1 2)", apply(0, num(1, 1), num(3, 2)))
	checkExpr(t, "((C 1) 2)", apply(0, construct(1, "C", num(4, 1)), num(7, 2)))
	checkExpr(t, "((+ 1 2) 3)", apply(0, prim(1, "+", num(4, 1), num(6, 2)), num(9, 3)))
	checkExpr(t, "((fn (x) x) 1)", apply(0, function(1, []string{"x"}, variable(9, "x")), num(12, 1)))
	checkExpr(t, "(f 1 2 3 4 5 6 7 8)", apply(0, variable(1, "f"), num(3, 1), num(5, 2), num(7, 3),
		num(9, 4), num(11, 5), num(13, 6), num(15, 7), num(17, 8)))
}

func TestConstructors(t *testing.T) {
	checkExpr(t, "(Just 1)", construct(0, "Just", num(6, 1)))
	checkExpr(t, "(Cons x (Cons y Nil))", construct(0, "Cons", variable(6, "x"),
		construct(8, "Cons", variable(14, "y"), construct(16, "Nil"))))
	checkExpr(t, "(C 1 2 3 4 5 6 7 8)", construct(0, "C", num(3, 1), num(5, 2), num(7, 3),
		num(9, 4), num(11, 5), num(13, 6), num(15, 7), num(17, 8)))
}

func TestOperations(t *testing.T) {
	for name, takes := range api.Prims() {
		s, want := "("+name, prim(0, name)
		for i := range takes {
			s += " "
			want.Args = append(want.Args, num(len(s), int64(i)))
			s += strconv.Itoa(i)
		}
		checkExpr(t, s+")", want)
		checkWrongExpr(t, s+" 9)", len(s)+1, api.ErrParse)
		checkWrongExpr(t, s[:len(s)-2]+")", 0, api.ErrParse)
		checkWrongExpr(t, name, 0, api.ErrParse)
		checkWrongExpr(t, "(f "+name+")", 3, api.ErrParse)
		checkWrongExpr(t, "(fn ("+name+") 1)", 5, api.ErrParse)
		checkWrongExpr(t, "(case 1 ("+name+" 1))", 9, api.ErrParse)
		checkWrongProgram(t, "(def "+name+" () 1)", 5, api.ErrParse)
		checkWrongProgram(t, "(data T () (C "+name+"))", 14, api.ErrParse)
	}
	checkExpr(t, "(+ 40 2)", prim(0, "+", num(3, 40), num(6, 2)))
	checkExpr(t, "(- 1 -1)", prim(0, "-", num(3, 1), num(5, -1)))
	checkExpr(t, "(cmul (cpx 1 2) x)", prim(0, "cmul", prim(6, "cpx", num(11, 1), num(13, 2)), variable(16, "x")))
}

func TestFunctions(t *testing.T) {
	checkExpr(t, "(fn (x) x)", function(0, []string{"x"}, variable(8, "x")))
	checkExpr(t, "(fn (x x) (x x))", function(0, []string{"x", "x"}, apply(10, variable(11, "x"), variable(13, "x"))))
	checkExpr(t, "(fn (a b c d e f g h) 1)", function(0, strings.Fields("a b c d e f g h"), num(22, 1)))
}

func TestLets(t *testing.T) {
	checkExpr(t, "(let ((x x)) x)", letIn(0, []string{"x"}, variable(9, "x"), variable(13, "x")))
	checkExpr(t, "(let ((x 1) (y (f x))) (C y))", letIn(0, []string{"x", "y"}, num(9, 1),
		apply(15, variable(16, "f"), variable(18, "x")), construct(23, "C", variable(26, "y"))))
	s, want := "(let (", letIn(0, nil)
	for i := range api.MaxArgs {
		s += "(x" + strconv.Itoa(i) + " "
		want.Names, want.Args = append(want.Names, "x"+strconv.Itoa(i)), append(want.Args, num(len(s), 5))
		s += "5)"
	}
	want.Args = append(want.Args, num(len(s)+2, 6))
	checkExpr(t, s+") 6)", want)
	checkWrongExpr(t, s+"(y 7)) 6)", len(s), api.ErrParse)
	checkWrongExpr(t, s+"1) 6)", len(s), api.ErrParse)
}

func TestCases(t *testing.T) {
	checkExpr(t, "(case x ((Just 1) 5) (_ 6))", cases(0, variable(6, "x"),
		api.Alt{Pat: api.Pat{Kind: api.ConP, Pos: 9, Name: "Just", Args: []api.Pat{{Kind: api.IntP, Pos: 15, Int: 1}}}, Body: num(18, 5)},
		api.Alt{Pat: api.Pat{Kind: api.WildP, Pos: 22}, Body: num(24, 6)}))
	checkExpr(t, "(case (f x) (Nil 0) (y y) (-1 2))", cases(0, apply(6, variable(7, "f"), variable(9, "x")),
		api.Alt{Pat: api.Pat{Kind: api.ConP, Pos: 13, Name: "Nil"}, Body: num(17, 0)},
		api.Alt{Pat: api.Pat{Kind: api.VarP, Pos: 21, Name: "y"}, Body: variable(23, "y")},
		api.Alt{Pat: api.Pat{Kind: api.IntP, Pos: 27, Int: -1}, Body: num(30, 2)}))
	checkExpr(t, "(case 1 ((P (Q x) _) 3))", cases(0, num(6, 1), api.Alt{Body: num(21, 3),
		Pat: api.Pat{Kind: api.ConP, Pos: 9, Name: "P", Args: []api.Pat{
			{Kind: api.ConP, Pos: 12, Name: "Q", Args: []api.Pat{{Kind: api.VarP, Pos: 15, Name: "x"}}},
			{Kind: api.WildP, Pos: 18}}}}))
	checkExpr(t, "(case 1 ((P 1 2 3 4 5 6 7 x) 3))", cases(0, num(6, 1), api.Alt{Body: num(29, 3),
		Pat: api.Pat{Kind: api.ConP, Pos: 9, Name: "P", Args: []api.Pat{
			{Kind: api.IntP, Pos: 12, Int: 1}, {Kind: api.IntP, Pos: 14, Int: 2}, {Kind: api.IntP, Pos: 16, Int: 3},
			{Kind: api.IntP, Pos: 18, Int: 4}, {Kind: api.IntP, Pos: 20, Int: 5}, {Kind: api.IntP, Pos: 22, Int: 6},
			{Kind: api.IntP, Pos: 24, Int: 7}, {Kind: api.VarP, Pos: 26, Name: "x"}}}}))
}

func TestMostPairsOfCase(t *testing.T) {
	s, want := "(case x", cases(0, variable(6, "x"))
	for i := range 16 {
		s += " (" + strconv.Itoa(i%10) + " 0)"
		want.Alts = append(want.Alts, api.Alt{Pat: api.Pat{Kind: api.IntP, Pos: len(s) - 4, Int: int64(i % 10)}, Body: num(len(s)-2, 0)})
	}
	checkExpr(t, s+")", want)
	checkWrongExpr(t, s+" (6 0))", len(s)+1, api.ErrParse)
	checkWrongExpr(t, s+" x y)", len(s)+1, api.ErrParse)
	checkWrongExpr(t, strings.Replace(s, "x", "_", 1)+" x)", len(s)+1, api.ErrParse)
	checkWrongExpr(t, strings.Replace(s, "x", "_", 1)+")", 6, api.ErrParse)
}

func TestDefinitions(t *testing.T) {
	checkProgram(t, "(def main () (+ 1 2))", api.Program{Defs: []api.Def{{Name: "main", Body: prim(13, "+", num(16, 1), num(18, 2))}}})
	checkProgram(t, "(def f (x y) x)\n (def f (x x) Nil)", api.Program{Defs: []api.Def{
		{Name: "f", Params: []string{"x", "y"}, Body: variable(13, "x")},
		{Pos: 17, Name: "f", Params: []string{"x", "x"}, Body: construct(30, "Nil")}}})
	checkProgram(t, "(def f (a b c d e f g h) 1)", api.Program{Defs: []api.Def{{Name: "f", Params: strings.Fields("a b c d e f g h"), Body: num(25, 1)}}})
}

func TestTypes(t *testing.T) {
	checkProgram(t, "(data List (a) (Nil) (Cons a (List a)))", api.Program{Datas: []api.Data{{Name: "List", Params: []string{"a"},
		Cons: []api.Con{{Pos: 15, Name: "Nil"}, {Pos: 21, Name: "Cons", Fields: []api.TypeE{typ(27, "a"), typ(29, "List", typ(35, "a"))}}}}}})
	checkProgram(t, "(data F () (F (-> Int (-> a b))))", api.Program{Datas: []api.Data{{Name: "F",
		Cons: []api.Con{{Pos: 11, Name: "F", Fields: []api.TypeE{typ(14, "->", typ(18, "Int"), typ(22, "->", typ(26, "a"), typ(28, "b")))}}}}}})
	var eight []api.TypeE
	for i, n := range strings.Fields("a b c d e f g h") {
		eight = append(eight, typ(29+2*i, n))
	}
	checkProgram(t, "(data T (a b c d e f g h) (C a b c d e f g h))", api.Program{Datas: []api.Data{{Name: "T",
		Params: strings.Fields("a b c d e f g h"), Cons: []api.Con{{Pos: 26, Name: "C", Fields: eight}}}}})
	for i := range eight {
		eight[i].Pos -= 12
	}
	checkProgram(t, "(data T () (C (T a b c d e f g h)))", api.Program{Datas: []api.Data{{Name: "T",
		Cons: []api.Con{{Pos: 11, Name: "C", Fields: []api.TypeE{typ(14, "T", eight...)}}}}}})
}

func TestTypesAndDefinitionsKeepTheirOrder(t *testing.T) {
	checkProgram(t, "(def a () 1) (data B () (C)) (def d () 2) (data E () (F))", api.Program{
		Datas: []api.Data{{Pos: 13, Name: "B", Cons: []api.Con{{Pos: 24, Name: "C"}}}, {Pos: 42, Name: "E", Cons: []api.Con{{Pos: 53, Name: "F"}}}},
		Defs:  []api.Def{{Name: "a", Body: num(10, 1)}, {Pos: 29, Name: "d", Body: num(39, 2)}}})
}

func TestNoTokenAtAll(t *testing.T) {
	for _, s := range []string{"", " ", "\n\t\r ", "; x", ";(\n ; )"} {
		checkProgram(t, s, api.Program{})
		checkWrongExpr(t, s, len(s), api.ErrParse)
	}
	if p, pos, e := Program(nil); e != api.OK || pos != -1 || !reflect.DeepEqual(p, api.Program{}) {
		t.Error(p, pos, e)
	}
	if x, pos, e := Expr(nil); e != api.ErrParse || pos != 0 || !reflect.DeepEqual(x, api.Expr{}) {
		t.Error(x, pos, e)
	}
}

// around is a text with lists around one number, and where the innermost list begins.
func around(lists int) (s string, inner int) {
	return strings.Repeat("(re ", lists) + "1" + strings.Repeat(")", lists), 4 * (lists - 1)
}

func TestListsInLists(t *testing.T) {
	s, _ := around(api.MaxNest)
	x, pos, e := Expr([]byte(s))
	for i := range api.MaxNest {
		if e != api.OK || pos != -1 || x.Kind != api.PrimE || x.Pos != 4*i || len(x.Args) != 1 {
			t.Fatal(i, x, pos, e)
		}
		x = x.Args[0]
	}
	if !reflect.DeepEqual(x, num(4*api.MaxNest, 1)) {
		t.Error(x)
	}
	s, inner := around(api.MaxNest + 1)
	checkWrongExpr(t, s, inner, api.ErrParse)
	s, _ = around(api.MaxNest - 1)
	p, pos, e := Program([]byte("(def f () " + s + ")"))
	if e != api.OK || pos != -1 || len(p.Defs) != 1 {
		t.Error(p, pos, e)
	}
	s, inner = around(api.MaxNest)
	checkWrongProgram(t, "(def f () "+s+")", 10+inner, api.ErrParse)
}

func TestListsOfAnyKindInLists(t *testing.T) {
	for _, c := range []struct{ before, open, inner, shut, after string }{
		{"(data T () (C ", "(T ", "a", ")", "))"},
		{"(data T () (C ", "(-> a ", "a", ")", "))"},
		{"(def f () (case 1 (", "(P ", "_", ")", " 1)))"},
		{"(def f () ", "(fn (x) ", "x", ")", ")"},
		{"(def f () ", "(C ", "1", ")", ")"},
		{"(def f () ", "(", "f", " x)", ")"},
	} {
		room := api.MaxNest - strings.Count(c.before, "(") + strings.Count(c.before, ")")
		most := room
		if strings.Contains(c.open, "(x)") {
			most-- // the innermost list of names stands in one more
		}
		s := c.before + strings.Repeat(c.open, most) + c.inner + strings.Repeat(c.shut, most) + c.after
		if _, pos, e := Program([]byte(s)); e != api.OK || pos != -1 {
			t.Errorf("%q: %d %d", s, pos, e)
		}
		at := len(c.before) + most*len(c.open)
		if most < room {
			at += strings.LastIndex(c.open, "(")
		}
		s = c.before + strings.Repeat(c.open, most+1) + c.inner + strings.Repeat(c.shut, most+1) + c.after
		checkWrongProgram(t, s, at, api.ErrParse)
	}
}

func TestListsOfAProgram(t *testing.T) {
	most := strings.Repeat("(def f () 1)(data T () (C))", api.MaxDefs/2)
	p, pos, e := Program([]byte(most))
	if e != api.OK || pos != -1 || len(p.Defs) != api.MaxDefs/2 || len(p.Datas) != api.MaxDefs/2 {
		t.Fatal(len(p.Defs), len(p.Datas), pos, e)
	}
	if d := p.Defs[49]; d.Pos != 49*27 || d.Body.Pos != 49*27+10 {
		t.Error(d)
	}
	defs := strings.Repeat("(def f () 1)", api.MaxDefs)
	if p, pos, e := Program([]byte(defs)); e != api.OK || pos != -1 || len(p.Defs) != api.MaxDefs {
		t.Error(len(p.Defs), pos, e)
	}
	for _, more := range []string{"(def f () 1)", "(data T () (C))", "()", "(f)", "(def f () _)", "x", ")", "(def f () 1) )"} {
		checkWrongProgram(t, most+more, len(most), api.ErrParse)
		checkWrongProgram(t, most+" "+more, len(most)+1, api.ErrParse)
	}
	checkWrongProgram(t, most+"(def f () ", len(most)+10, api.ErrParse)
	checkWrongProgram(t, defs[:len(defs)-2]+"_)(def", len(defs)-2, api.ErrParse)
}

func TestConstructorsOfAType(t *testing.T) {
	s := "(data T ()" + strings.Repeat(" (C)", 100)
	p, pos, e := Program([]byte(s + ")"))
	if e != api.OK || pos != -1 || len(p.Datas) != 1 || len(p.Datas[0].Cons) != 100 || p.Datas[0].Cons[99].Pos != len(s)-3 {
		t.Error(p, pos, e)
	}
	checkWrongProgram(t, s+" (C))", len(s)+1, api.ErrParse)
	checkWrongProgram(t, s+" C D)", len(s)+1, api.ErrParse)
	checkWrongProgram(t, strings.Replace(s, "T", "1", 1)+" (C))", len(s)+1, api.ErrParse)
	checkWrongProgram(t, strings.Replace(s, "T", "1", 1)+")", 6, api.ErrParse)
}

func TestLayer1ErrorsComeFirst(t *testing.T) {
	long := strings.Repeat(" ", api.MaxSource+1)
	for _, c := range []struct {
		s  string
		at int
	}{{"@", 0}, {") @", 2}, {"(def f () 1) (f 12x", 16}, {"x y #", 4}, {"_ '", 2}, {long, api.MaxSource}, {")" + long, api.MaxSource}} {
		checkWrongProgram(t, c.s, c.at, api.ErrLex)
		checkWrongExpr(t, c.s, c.at, api.ErrLex)
	}
}

func TestLongestText(t *testing.T) {
	s := "(def main () 1)" + strings.Repeat(" ", api.MaxSource-15)
	checkProgram(t, s, api.Program{Defs: []api.Def{{Name: "main", Body: num(13, 1)}}})
	checkWrongProgram(t, s+" ", api.MaxSource, api.ErrLex)
	checkWrongProgram(t, strings.Repeat("(", api.MaxSource), api.MaxNest, api.ErrParse)
	checkWrongProgram(t, strings.Repeat("(x)", api.MaxSource/3), 0, api.ErrParse)
	wide := "(" + strings.Repeat("()", api.MaxSource/2-1) + ")"
	checkWrongExpr(t, wide, 1+2*9, api.ErrParse)
	checkWrongExpr(t, wide[:len(wide)-1], len(wide)-1, api.ErrParse)
}

func TestBlanksMoveOnlyPlaces(t *testing.T) {
	const gap = " ;(\n\t"
	s := strings.Join(strings.Fields("( def f ( x ) ( case x ( _ ( + x -1 ) ) ) )"), gap)
	p, pos, e := Program([]byte(s))
	if e != api.OK || pos != -1 {
		t.Fatal(pos, e)
	}
	if want, _, _ := Program([]byte("(def f(x)(case x(_(+ x -1))))")); !reflect.DeepEqual(movedToZero(p), movedToZero(want)) {
		t.Error(p, want)
	}
}

const sample = "(data L (a b) (N) (C a (L a b) (-> a b)))(def f (x y) (let ((u (f 1 x)) (v V)) (case (K u v) ((K 1 (P a _)) (fn (p q) (+ p q))) (_ x))))(def main () 1)"

func TestWhatIsGivenIsLeft(t *testing.T) {
	all := []byte(sample + ")) (")
	s := all[:len(sample)]
	before := bytes.Clone(all)
	p, pos, e := Program(s)
	x, posX, eX := Expr(all[len("(data L (a b) (N) (C a (L a b) (-> a b)))(def f (x y) "):][:len("(let ((u (f 1 x)) (v V)) (case (K u v) ((K 1 (P a _)) (fn (p q) (+ p q))) (_ x)))")])
	if e != api.OK || pos != -1 || eX != api.OK || posX != -1 {
		t.Fatal("what lies behind the length was read:", pos, e, posX, eX)
	}
	if !bytes.Equal(all, before) {
		t.Error("what was given was changed")
	}
	clear(all)
	if again, _, _ := Program([]byte(sample)); !reflect.DeepEqual(p, again) {
		t.Error("what was given was kept:", p)
	}
	if x.Kind != api.LetE || x.Names[1] != "v" || x.Args[0].Args[0].Name != "f" {
		t.Error("what was given was kept:", x)
	}
}

func TestSameAnswerEachTime(t *testing.T) {
	first, _, _ := Program([]byte(sample))
	second, _, _ := Program([]byte(sample))
	grow(reflect.ValueOf(&second))
	if third, _, e := Program([]byte(sample)); e != api.OK || !reflect.DeepEqual(first, third) {
		t.Error("an answer hangs on what became of another one")
	}
	checkWrongProgram(t, "(def", 4, api.ErrParse)
	if third, _, _ := Program([]byte(sample)); !reflect.DeepEqual(first, third) {
		t.Error("an answer hangs on an error ahead of it")
	}
}

func TestListsOfAnAnswerAreApart(t *testing.T) {
	p, _, _ := Program([]byte(sample))
	whole, _, _ := Program([]byte(sample))
	grow(reflect.ValueOf(&p))
	if !reflect.DeepEqual(p, whole) {
		t.Error("what was appended to a list stands in another one:", p)
	}
}

// grow appends a zero value to each list in v, and leaves the list its length, so that what lies behind it is written.
func grow(v reflect.Value) {
	switch v.Kind() {
	case reflect.Pointer:
		grow(v.Elem())
	case reflect.Struct:
		for i := range v.NumField() {
			grow(v.Field(i))
		}
	case reflect.Slice:
		reflect.Append(v, reflect.Zero(v.Type().Elem()))
		for i := range v.Len() {
			grow(v.Index(i))
		}
	}
}

// movedToZero is a program all of whose places were made 0, as no place is told of what is compared.
func movedToZero(p api.Program) api.Program {
	moveToZero(reflect.ValueOf(&p))
	return p
}

func moveToZero(v reflect.Value) {
	switch v.Kind() {
	case reflect.Pointer:
		moveToZero(v.Elem())
	case reflect.Struct:
		for i := range v.NumField() {
			if v.Type().Field(i).Name == "Pos" {
				v.Field(i).SetInt(0)
			}
			moveToZero(v.Field(i))
		}
	case reflect.Slice:
		for i := range v.Len() {
			moveToZero(v.Index(i))
		}
	}
}
