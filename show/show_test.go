package show

import (
	"math"
	"reflect"
	"strings"
	"testing"

	"reverie/api"
)

func num(n int64) api.Expr        { return api.Expr{Kind: api.IntE, Int: n} }
func variable(n string) api.Expr  { return api.Expr{Kind: api.VarE, Name: n} }
func typ(n string) api.TypeE      { return api.TypeE{Name: n} }
func number(n int64) api.Tree     { return api.Tree{Int: n} }
func point(re, im int64) api.Tree { return api.Tree{Name: "cpx", Re: re, Im: im} }
func variableP(n string) api.Pat  { return api.Pat{Kind: api.VarP, Name: n} }
func anyP() api.Pat               { return api.Pat{Kind: api.WildP} }
func fails() api.Expr             { return api.Expr{Kind: api.FailE} }
func made(n string, args ...api.Tree) api.Tree {
	return api.Tree{Name: n, Args: args}
}
func typeOf(n string, args ...api.TypeE) api.TypeE { return api.TypeE{Name: n, Args: args} }
func construct(n string, args ...api.Expr) api.Expr {
	return api.Expr{Kind: api.ConE, Name: n, Args: args}
}
func prim(n string, args ...api.Expr) api.Expr {
	return api.Expr{Kind: api.PrimE, Name: n, Args: args}
}
func apply(args ...api.Expr) api.Expr { return api.Expr{Kind: api.AppE, Args: args} }
func function(body api.Expr, names ...string) api.Expr {
	return api.Expr{Kind: api.FnE, Names: names, Args: []api.Expr{body}}
}
func letIn(names []string, args ...api.Expr) api.Expr {
	return api.Expr{Kind: api.LetE, Names: names, Args: args}
}
func cases(on api.Expr, alts ...api.Alt) api.Expr {
	return api.Expr{Kind: api.CaseE, Args: []api.Expr{on}, Alts: alts}
}
func conP(n string, args ...api.Pat) api.Pat {
	return api.Pat{Kind: api.ConP, Name: n, Args: args}
}

// checkText asks for the text, twice, as what a call answers hangs on nothing that was.
func checkText[T any](t *testing.T, text func(T) string, part T, want string) {
	t.Helper()
	for range 2 {
		if s := text(part); s != want {
			t.Errorf("%+v: %q, not %q", part, s, want)
		}
	}
}

func TestTypes(t *testing.T) {
	for want, y := range map[string]api.TypeE{
		"Int":                         typ("Int"),
		"a":                           typ("a"),
		"(-> a b)":                    typeOf("->", typ("a"), typ("b")),
		"(List a)":                    typeOf("List", typ("a")),
		"(T a b c d e f g H)":         typeOf("T", typ("a"), typ("b"), typ("c"), typ("d"), typ("e"), typ("f"), typ("g"), typ("H")),
		"(-> (-> a b) (-> a b))":      typeOf("->", typeOf("->", typ("a"), typ("b")), typeOf("->", typ("a"), typ("b"))),
		"(Pair (List a') (-> a Int))": typeOf("Pair", typeOf("List", typ("a'")), typeOf("->", typ("a"), typ("Int"))),
	} {
		checkText(t, Type, y, want)
	}
}

func TestPatterns(t *testing.T) {
	for want, p := range map[string]api.Pat{
		"_":                    anyP(),
		"x":                    variableP("x"),
		"0":                    {Kind: api.IntP},
		"-7":                   {Kind: api.IntP, Int: -7},
		"999999999999999999":   {Kind: api.IntP, Int: 999999999999999999},
		"Nil":                  conP("Nil"),
		"(Cons x _)":           conP("Cons", variableP("x"), anyP()),
		"(Just (Just -1))":     conP("Just", conP("Just", api.Pat{Kind: api.IntP, Int: -1})),
		"(P (Q Nil) 2 Nil y')": conP("P", conP("Q", conP("Nil")), api.Pat{Kind: api.IntP, Int: 2}, conP("Nil"), variableP("y'")),
	} {
		checkText(t, Pat, p, want)
	}
}

func TestExpressions(t *testing.T) {
	x, y := variable("x"), variable("y")
	for want, e := range map[string]api.Expr{
		"1":                         num(1),
		"x":                         x,
		"Nil":                       construct("Nil"),
		"fail":                      fails(),
		"(Just fail)":               construct("Just", fails()),
		"(Cons 1 Nil)":              construct("Cons", num(1), construct("Nil")),
		"(+ x 1)":                   prim("+", x, num(1)),
		"(re (cpx 1 -2))":           prim("re", prim("cpx", num(1), num(-2))),
		"(f x)":                     apply(variable("f"), x),
		"((f x) y)":                 apply(apply(variable("f"), x), y),
		"((Just 1) 2)":              apply(construct("Just", num(1)), num(2)),
		"(1 2 3 4 5 6 7 8 9)":       apply(num(1), num(2), num(3), num(4), num(5), num(6), num(7), num(8), num(9)),
		"(fn (x) (+ x 1))":          function(prim("+", x, num(1)), "x"),
		"(fn (x y) x)":              function(x, "x", "y"),
		"(fn (x) (fn (y) fail))":    function(function(fails(), "y"), "x"),
		"((fn (x) x) 1)":            apply(function(x, "x"), num(1)),
		"(let ((x 1)) x)":           letIn([]string{"x"}, num(1), x),
		"(let ((x y) (y x)) (x y))": letIn([]string{"x", "y"}, y, x, apply(x, y)),
		"(let ((A.1 (g 1))) (f A.1 2))": letIn([]string{"A.1"}, apply(variable("g"), num(1)),
			apply(variable("f"), variable("A.1"), num(2))),
		"(case x (_ 0))":                  cases(x, api.Alt{Pat: anyP(), Body: num(0)}),
		"(case x ((Just 1) 5) (_ (f 6)))": cases(x, api.Alt{Pat: conP("Just", api.Pat{Kind: api.IntP, Int: 1}), Body: num(5)}, api.Alt{Pat: anyP(), Body: apply(variable("f"), num(6))}),
		"(case (f x) (y y))":              cases(apply(variable("f"), x), api.Alt{Pat: variableP("y"), Body: y}),
	} {
		checkText(t, Expr, e, want)
	}
}

func TestOperations(t *testing.T) {
	for name, takes := range api.Prims() {
		args := []api.Expr{num(3), variable("x")}[:takes]
		checkText(t, Expr, prim(name, args...), "("+name+[]string{"", " 3)", " 3 x)"}[takes])
	}
}

func list() api.Data {
	cons := api.Con{Name: "Cons", Fields: []api.TypeE{typ("a"), typeOf("List", typ("a"))}}
	return api.Data{Name: "List", Params: []string{"a"}, Cons: []api.Con{{Name: "Nil"}, cons}}
}

func TestDatasAndDefs(t *testing.T) {
	checkText(t, Data, list(), "(data List (a) (Nil) (Cons a (List a)))")
	checkText(t, Data, api.Data{Name: "T", Cons: []api.Con{{Name: "C"}}}, "(data T () (C))")
	checkText(t, Data, api.Data{Name: "T", Params: []string{"a", "b'"}, Cons: []api.Con{{Name: "C", Fields: []api.TypeE{typ("b'")}}}}, "(data T (a b') (C b'))")
	checkText(t, Def, api.Def{Name: "main", Body: num(42)}, "(def main () 42)")
	checkText(t, Def, api.Def{Name: "f", Params: []string{"x"}, Body: fails()}, "(def f (x) fail)")
	checkText(t, Def, api.Def{Name: "f", Params: strings.Fields("a b c d e f g h"), Body: apply(variable("a"), variable("h"))}, "(def f (a b c d e f g h) (a h))")
}

// TestProgram has the types first, whatever their places, and behind each part a line's end.
func TestProgram(t *testing.T) {
	p := api.Program{
		Defs:  []api.Def{{Pos: 3, Name: "main", Body: variable("f")}, {Pos: 1, Name: "f", Params: []string{"x"}, Body: num(0)}},
		Datas: []api.Data{list(), {Pos: 70, Name: "Unit", Cons: []api.Con{{Name: "U"}}}},
	}
	checkText(t, Program, p, "(data List (a) (Nil) (Cons a (List a)))\n(data Unit () (U))\n(def main () f)\n(def f (x) 0)\n")
	checkText(t, Program, api.Program{Datas: p.Datas[1:]}, "(data Unit () (U))\n")
	checkText(t, Program, api.Program{Defs: p.Defs[:1]}, "(def main () f)\n")
	checkText(t, Program, api.Program{}, "")
	checkText(t, Program, api.Program{Datas: []api.Data{}, Defs: []api.Def{}}, "")
}

func TestNumbers(t *testing.T) {
	for want, n := range map[string]int64{
		"0": 0, "7": 7, "-1": -1, "10": 10, "-100": -100, "123456789012345678": 123456789012345678,
		"9223372036854775807": math.MaxInt64, "-9223372036854775808": math.MinInt64,
	} {
		checkText(t, Expr, num(n), want)
		checkText(t, Pat, api.Pat{Kind: api.IntP, Int: n}, want)
		checkText(t, Tree, number(n), want)
		checkText(t, Tree, point(n, 1), "(cpx "+want+" 1)")
		checkText(t, Tree, point(-1, n), "(cpx -1 "+want+")")
		checkText(t, Tree, made("P", number(n), number(n)), "(P "+want+" "+want+")")
	}
}

func TestTrees(t *testing.T) {
	filled := api.Tree{Int: 1, Re: 2, Im: 3, Args: []api.Tree{number(4), {}}}
	called := func(name string) api.Tree { t := filled; t.Name = name; return t }
	for want, tree := range map[string]api.Tree{
		"0":                            {},
		"42":                           number(42),
		"1":                            filled,
		"(cpx 2 3)":                    called("cpx"),
		"(C 4 0)":                      called("C"),
		"(Cpx 4 0)":                    called("Cpx"),
		"(cpx' 4 0)":                   called("cpx'"),
		"(fn 4 0)":                     called("fn"),
		"True":                         made("True"),
		"cp":                           made("cp"),
		"(cpx -5 10)":                  point(-5, 10),
		"(cpx 0 0)":                    point(0, 0),
		"(Just (cpx 1 0))":             made("Just", point(1, 0)),
		"(Cons 1 (Cons -2 Nil))":       made("Cons", number(1), made("Cons", number(-2), made("Nil"))),
		"(Pair (Pair 1 2) (Pair A 3))": made("Pair", made("Pair", number(1), number(2)), made("Pair", made("A"), number(3))),
		"(T 1 2 3 4 5 6 7 8 9 10)":     made("T", number(1), number(2), number(3), number(4), number(5), number(6), number(7), number(8), number(9), number(10)),
		"(( 1)":                        made("(", number(1)),
		"() ))":                        made(")", made(")")),
		"(  (\n 0 \x00))":              made(" ", made("\n", number(0), made("\x00"))),
		"é\xff":                        made("é\xff"),
		"?":                            made("?"),
	} {
		checkText(t, Tree, tree, want)
	}
}

// TestEmptyLists has lists that are nil, and lists without elements, as the same.
func TestEmptyLists(t *testing.T) {
	checkText(t, Type, api.TypeE{Name: "T", Args: []api.TypeE{}}, "T")
	checkText(t, Pat, api.Pat{Kind: api.ConP, Name: "C", Args: []api.Pat{}}, "C")
	checkText(t, Expr, api.Expr{Kind: api.ConE, Name: "C", Args: []api.Expr{}, Names: []string{}, Alts: []api.Alt{}}, "C")
	checkText(t, Tree, api.Tree{Name: "C", Args: []api.Tree{}}, "C")
	checkText(t, Def, api.Def{Name: "f", Params: []string{}, Body: num(1)}, "(def f () 1)")
	checkText(t, Data, api.Data{Name: "T", Params: []string{}, Cons: []api.Con{{Name: "C", Fields: []api.TypeE{}}}}, "(data T () (C))")
}

// TestPlacesAreNotWritten also has fields that say nothing in a part of its kind.
func TestPlacesAreNotWritten(t *testing.T) {
	checkText(t, Expr, api.Expr{Kind: api.IntE, Pos: 9, Name: "x", Int: 3, Names: []string{"y"}, Args: []api.Expr{num(1)}}, "3")
	checkText(t, Expr, api.Expr{Kind: api.FailE, Pos: 9, Name: "x", Int: 3, Args: []api.Expr{num(1)}}, "fail")
	checkText(t, Expr, api.Expr{Kind: api.AppE, Pos: 9, Name: "x", Int: 3, Args: []api.Expr{num(1), num(2)}}, "(1 2)")
	checkText(t, Pat, api.Pat{Kind: api.WildP, Pos: 9, Name: "x", Int: 3, Args: []api.Pat{anyP()}}, "_")
	checkText(t, Pat, api.Pat{Kind: api.IntP, Pos: 9, Name: "x", Int: 3, Args: []api.Pat{anyP()}}, "3")
	checkText(t, Type, api.TypeE{Pos: 9, Name: "x"}, "x")
	checkText(t, Data, api.Data{Pos: 9, Name: "T", Cons: []api.Con{{Pos: 8, Name: "C"}}}, "(data T () (C))")
	checkText(t, Def, api.Def{Pos: 9, Name: "f", Body: num(1)}, "(def f () 1)")
}

// checkSome asks for some text of a part that layer 2 never answers.
func checkSome[T any](t *testing.T, text func(T) string, parts ...T) {
	t.Helper()
	for _, p := range parts {
		if s := text(p); s == "" || text(p) != s {
			t.Errorf("%+v: %q, and then %q", p, s, text(p))
		}
	}
}

func TestOtherParts(t *testing.T) {
	checkSome(t, Type, api.TypeE{}, typ("->"), typ("("), typeOf("", typ("")), typeOf("->", typ("a")), typeOf("a", typ("b")), typeOf("->", typ("a"), typ("b"), typ("c")))
	checkSome(t, Data, api.Data{}, api.Data{Name: "x", Params: []string{"", "A"}}, api.Data{Cons: make([]api.Con, 200)})
	checkSome(t, Def, api.Def{}, api.Def{Name: "fn", Params: make([]string, 20)})
	checkSome(t, Program, api.Program{Defs: make([]api.Def, 2)}, api.Program{Datas: make([]api.Data, 200)})
	for _, kind := range []int{math.MinInt, -1, api.WildP, api.VarP, api.IntP, api.ConP, 4, 99, math.MaxInt} {
		p := api.Pat{Kind: kind}
		checkSome(t, Pat, p, api.Pat{Kind: kind, Name: "X"}, api.Pat{Kind: kind, Args: []api.Pat{p, p}}, api.Pat{Kind: kind, Name: "9", Args: make([]api.Pat, 20)})
	}
}

// TestOtherExpressions has each kind with each number of names, arguments and alternatives from none on.
func TestOtherExpressions(t *testing.T) {
	kinds := []int{math.MinInt, -1, 9, 99, math.MaxInt}
	for kind := api.IntE; kind <= api.FailE; kind++ {
		kinds = append(kinds, kind)
	}
	for _, kind := range kinds {
		for i := range 5 * 5 * 5 * 2 {
			x := api.Expr{Kind: kind, Names: make([]string, i%5), Args: make([]api.Expr, i/5%5), Alts: make([]api.Alt, i/25%5)}
			if i >= 125 {
				x.Name = "x"
			}
			for j := range x.Args {
				x.Args[j].Kind = kinds[(i+j)%len(kinds)]
			}
			checkSome(t, Expr, x)
			checkSome(t, Def, api.Def{Name: "f", Body: x})
		}
	}
}

// TestNothingIsChanged lays another part behind each list's length: it is neither written nor changed, and what was handed in stays as it was.
func TestNothingIsChanged(t *testing.T) {
	args := []api.Expr{num(1), variable("x"), num(3)}
	alts := []api.Alt{{Pat: anyP(), Body: num(1)}, {Pat: variableP("y"), Body: num(2)}}
	names := []string{"a", "b", "c"}
	pats := []api.Pat{anyP(), variableP("z")}
	types := []api.TypeE{typ("a"), typ("b")}
	trees := []api.Tree{number(1), made("A")}
	defs := []api.Def{{Name: "f", Params: names[:2], Body: letIn(names[:1], args[:2]...)}, {Name: "g"}}
	datas := []api.Data{{Name: "T", Params: names[:1], Cons: []api.Con{{Name: "C", Fields: types[:1]}, {Name: "D"}}[:1]}, {Name: "U"}}
	whole := []any{args, alts, names, pats, types, trees, defs, datas}
	before := []any{append([]api.Expr{}, args...), append([]api.Alt{}, alts...), append([]string{}, names...), append([]api.Pat{}, pats...), append([]api.TypeE{}, types...), append([]api.Tree{}, trees...), append([]api.Def{}, defs...), append([]api.Data{}, datas...)}
	checkText(t, Expr, cases(args[0], alts[:1]...), "(case 1 (_ 1))")
	checkText(t, Expr, apply(args[:2]...), "(1 x)")
	checkText(t, Expr, prim("re", args[:1]...), "(re 1)")
	checkText(t, Expr, construct("C", args[:0]...), "C")
	checkText(t, Expr, api.Expr{Kind: api.FnE, Names: names[:2], Args: args[:1]}, "(fn (a b) 1)")
	checkText(t, Pat, conP("C", pats[:1]...), "(C _)")
	checkText(t, Type, typeOf("C", types[:1]...), "(C a)")
	checkText(t, Tree, made("C", trees[:1]...), "(C 1)")
	checkText(t, Program, api.Program{Datas: datas[:1], Defs: defs[:1]}, "(data T (a) (C a))\n(def f (a b) (let ((a 1)) x))\n")
	if !reflect.DeepEqual(whole, before) {
		t.Errorf("%+v became %+v", before, whole)
	}
}
