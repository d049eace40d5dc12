package scope

import (
	"fmt"
	"maps"
	"math"
	"reflect"
	"slices"
	"strings"
	"testing"

	"reverie/api"
	"reverie/parse"
)

func parsed(t *testing.T, s string) api.Program {
	t.Helper()
	p, pos, e := parse.Program([]byte(s))
	if e != api.OK {
		t.Fatalf("%q is no program: %d at %d", s, e, pos)
	}
	return p
}

func parsedExpr(t *testing.T, s string) api.Expr {
	t.Helper()
	x, pos, e := parse.Expr([]byte(s))
	if e != api.OK {
		t.Fatalf("%q is no expression: %d at %d", s, e, pos)
	}
	return x
}

// checkMap asks for the map twice, and turns each answer, as what a call answers hangs on nothing that was.
func checkMap[V comparable](t *testing.T, what string, ask func() map[string]V, want map[string]V) {
	t.Helper()
	var other V
	for range 2 {
		got := ask()
		if !maps.Equal(got, want) {
			t.Errorf("%s: %v, not %v", what, got, want)
			return
		}
		for name := range want {
			got[name] = other
		}
		got["New"] = other
		delete(got, "False")
		delete(got, "Int")
	}
}

func TestGiven(t *testing.T) {
	checkMap(t, "given", Given, map[string]int{"Int": 0, "Bool": 0, "Cpx": 0})
	Check(parsed(t, "(data T (a) (C a)) (data Int (a b) (D)) (def main () 1)"))
	checkMap(t, "given, once more", Given, map[string]int{"Int": 0, "Bool": 0, "Cpx": 0})
}

func TestCons(t *testing.T) {
	no, yes := Con{-1, 0, 0}, Con{-1, 1, 0}
	for s, want := range map[string]map[string]Con{
		"":                       {"False": no, "True": yes},
		"(def main () (C 1))":    {"False": no, "True": yes},
		"(data T () (C))":        {"False": no, "True": yes, "C": {0, 0, 0}},
		"(data T () (T))":        {"False": no, "True": yes, "T": {0, 0, 0}},
		"(data Bool () (Int a))": {"False": no, "True": yes, "Int": {0, 0, 1}},
		"(data L (a) (Nil) (Cons a (L a))) (def f (x) (D x)) (data T () (A) (B) (C Int (L Int) Bool))": {
			"False": no, "True": yes, "Nil": {0, 0, 0}, "Cons": {0, 1, 2}, "A": {1, 0, 0}, "B": {1, 1, 0}, "C": {1, 2, 3}},
		"(data T () (C a b c d e f g (-> h (T i))))": {"False": no, "True": yes, "C": {0, 0, 8}},
	} {
		p := parsed(t, s)
		checkMap(t, s, func() map[string]Con { return Cons(p) }, want)
	}
}

// TestConsTwice has constructors that come twice, in one type, in two, and in one whose name comes twice: the last one is told.
func TestConsTwice(t *testing.T) {
	no, yes := Con{-1, 0, 0}, Con{-1, 1, 0}
	for s, want := range map[string]map[string]Con{
		"(data T () (C) (C Int))":                     {"False": no, "True": yes, "C": {0, 1, 1}},
		"(data T () (C Int) (D) (C))":                 {"False": no, "True": yes, "C": {0, 2, 0}, "D": {0, 1, 0}},
		"(data T () (C Int) (D)) (data U () (E) (C))": {"False": no, "True": yes, "C": {1, 1, 0}, "D": {0, 1, 0}, "E": {1, 0, 0}},
		"(data T () (C)) (data T () (C Int Int))":     {"False": no, "True": yes, "C": {1, 0, 2}},
		"(data T () (C) (False Int))":                 {"False": {0, 1, 1}, "True": yes, "C": {0, 0, 0}},
		"(data T () (True) (True) (True Int))":        {"False": no, "True": {0, 2, 1}},
		"(data T () (True)) (data U () (A) (False))":  {"False": {1, 1, 0}, "True": {0, 0, 0}, "A": {1, 0, 0}},
	} {
		p := parsed(t, s)
		checkMap(t, s, func() map[string]Con { return Cons(p) }, want)
	}
}

func TestManyCons(t *testing.T) {
	var s strings.Builder
	want := Cons(api.Program{})
	for i := range 20 {
		fmt.Fprintf(&s, "(data T%d ()", i)
		for at := range 13 {
			name := fmt.Sprintf("C%dx%d", i, at)
			fmt.Fprintf(&s, "(%s%s)", name, strings.Repeat(" a", at%3))
			want[name] = Con{i, at, at % 3}
		}
		s.WriteString(")")
	}
	p := parsed(t, s.String())
	checkMap(t, "many", func() map[string]Con { return Cons(p) }, want)
}

// all is a value with all that its lists hold, what lies behind their lengths among it.
func all(v reflect.Value) string {
	switch v.Kind() {
	case reflect.Slice:
		s := fmt.Sprint("[", v.Len(), ":")
		for i := range v.Cap() {
			s += all(v.Slice(0, v.Cap()).Index(i)) + " "
		}
		return s + "]"
	case reflect.Struct:
		s := "{"
		for i := range v.NumField() {
			s += all(v.Field(i)) + " "
		}
		return s + "}"
	}
	return fmt.Sprintf("%#v", v.Interface())
}

// checkSame makes each call, twice, and asks that the program is as it was behind each.
func checkSame(t *testing.T, p api.Program) {
	t.Helper()
	was := all(reflect.ValueOf(p))
	still := func(call string) {
		if now := all(reflect.ValueOf(p)); now != was {
			t.Fatalf("%s: %s became %s", call, was, now)
		}
	}
	var before []any
	for range 2 {
		pos, e := Check(p)
		still("Check")
		cons := Cons(p)
		still("Cons")
		answers := []any{pos, e, cons}
		for _, d := range p.Defs {
			list := Free(d.Body)
			still("Free")
			answers = append(answers, slices.Clone(list))
			for i := range list[:cap(list)] {
				list[:cap(list)][i] = "turned"
			}
			still("a turned answer of Free")
		}
		if before != nil && !reflect.DeepEqual(answers, before) {
			t.Fatalf("%s: %v, and then %v", was, before, answers)
		}
		before = answers
	}
}

// spare has room behind a list's length, in which another part lies.
func spare[T any](other T, parts ...T) []T {
	return append(slices.Clone(parts), other, other)[:len(parts)]
}

func TestNothingIsChanged(t *testing.T) {
	for _, s := range []string{
		"", "(def main () x)", "(def main (x x) (f x)) (def f () (fn (y y) y))",
		"(data T (a) (A) (B a (T a))) (def f (x y) (let ((z (B x A)) (g (fn (x) (g y)))) (case z (A 1) ((B u v) (+ u (g v))) (_ (re (cpx 1 2)))))) (def main () (f 1 2))",
		"(data Int (a a) (A b) (True)) (def f () (case 1 ((A x x) (C 1)))) (def f () 1)",
	} {
		checkSame(t, parsed(t, s))
	}
	x := api.Expr{Kind: api.VarE, Name: "x"}
	other := api.Expr{Kind: api.VarE, Name: "other"}
	nope := api.Expr{Kind: api.ConE, Name: "Other"}
	alt := api.Alt{Pat: api.Pat{Kind: api.ConP, Name: "P", Args: spare(api.Pat{Kind: api.VarP, Name: "z"}, api.Pat{Kind: api.VarP, Name: "y"})}, Body: x}
	body := api.Expr{Kind: api.CaseE, Args: spare(nope, x), Alts: spare(api.Alt{Body: other}, alt)}
	fn := api.Expr{Kind: api.FnE, Names: spare("x", "x"), Args: spare(other, body)}
	let := api.Expr{Kind: api.LetE, Names: spare("f", "f", "x"), Args: spare(nope, fn, fn, api.Expr{Kind: api.PrimE, Name: "re", Args: spare(other, x)})}
	con := api.Con{Name: "P", Fields: spare(api.TypeE{Name: "No"}, api.TypeE{Name: "->", Args: spare(api.TypeE{Name: "No"}, api.TypeE{Name: "a"}, api.TypeE{Name: "Int"})})}
	data := api.Data{Name: "T", Params: spare("a", "a"), Cons: spare(con, con)}
	def := api.Def{Name: "main", Params: spare("x")}
	def.Body = let
	p := api.Program{Datas: spare(data, data), Defs: spare(def, def)}
	checkSame(t, p)
	if pos, e := Check(p); pos != -1 || e != api.OK {
		t.Error("what lies behind the lists' lengths was read:", pos, e)
	}
	checkMap(t, "spare", func() map[string]Con { return Cons(p) }, map[string]Con{"False": {-1, 0, 0}, "True": {-1, 1, 0}, "P": {0, 0, 1}})
	if list := Free(api.Expr{Kind: api.AppE, Args: spare(other, body, x)}); !slices.Equal(list, []string{"x"}) {
		t.Error("free behind the lists' lengths:", list)
	}
}

// TestOtherParts has parts that layer 2 never answers: the calls end, and don't panic.
func TestOtherParts(t *testing.T) {
	kinds := []int{math.MinInt, -1, 9, 99, math.MaxInt}
	for kind := api.IntE; kind <= api.FailE; kind++ {
		kinds = append(kinds, kind)
	}
	for _, kind := range kinds {
		for i := range 5 * 5 * 5 * 2 {
			x := api.Expr{Kind: kind, Names: make([]string, i%5), Args: make([]api.Expr, i/5%5), Alts: make([]api.Alt, i/25%5)}
			if i >= 125 {
				x.Name = "x"
			}
			for j := range x.Args {
				x.Args[j].Kind = kinds[(i+j)%len(kinds)]
			}
			for j := range x.Alts {
				x.Alts[j].Pat = api.Pat{Kind: kinds[j], Args: []api.Pat{{Kind: api.VarP}, {Kind: kind, Name: "x"}}}
			}
			Free(x)
			for _, params := range [][]string{nil, {"x"}, {"", ""}} {
				Check(api.Program{Datas: []api.Data{{Params: params, Cons: make([]api.Con, 2)}}, Defs: []api.Def{{Name: "main", Params: params, Body: x}}})
			}
		}
	}
}

// nest is open, times over, in, and shut as often.
func nest(open, in, shut string, times int) string {
	return strings.Repeat(open, times) + in + strings.Repeat(shut, times)
}

// TestDensePrograms has programs with as much in them as a text may hold.
func TestDensePrograms(t *testing.T) {
	const names = "a b c d e f g h"
	checkPlace(t, "(def main () "+nest("(fn (a) ", "a", ")", 38)+")", -1, api.OK)
	checkPlace(t, "(def main () "+nest("(fn (a) ", "b", ")", 38)+")", 13+38*8, api.ErrScope)
	checkPlace(t, "(def main () "+nest("(let ((a a)) ", "a", ")", 37)+")", -1, api.OK)
	checkPlace(t, "(def main () "+nest("(let ((a ", "a", ")) a)", 13)+")", -1, api.OK)
	checkPlace(t, "(def main () "+nest("(case 1 (a ", "a", "))", 19)+")", -1, api.OK)
	checkPlace(t, "(def main () "+nest("(case 1 (a ", "b", "))", 19)+")", 13+19*11, api.ErrScope)
	checkPlace(t, "(data T () (S T)) (def main () (case 1 ("+nest("(S ", "x", ")", 37)+" x)))", -1, api.OK)
	checkPlace(t, "(data T () (S T)) (def main () (case 1 ("+nest("(S ", "S", ")", 37)+" x)))", 40+37*3, api.ErrScope)
	checkPlace(t, "(data T (a) (P "+nest("(-> a ", "a", ")", 38)+")) (def main () 1)", -1, api.OK)
	checkPlace(t, "(data T (a) (P "+nest("(T ", "b", ")", 38)+")) (def main () 1)", 15+38*3, api.ErrScope)
	checkPlace(t, "(def f ("+names+") (let ("+strings.ReplaceAll("(a N) (b N) (c N) (d N) (e N) (f N) (g N) (h N)", "N", nest("(+ a ", "h", ")", 30))+") a)) (def main () f)", -1, api.OK)
	checkPlace(t, strings.Repeat("(def main () 1)", 100), 15, api.ErrScope)
}

// TestManyDefinitions has as many as there may be, each of which uses others.
func TestManyDefinitions(t *testing.T) {
	s := "(def main () f98)"
	for i := range 99 {
		s += fmt.Sprintf("(def f%d (x) (f%d x f%d))", i, (i*7)%99, 98-i)
	}
	checkPlace(t, s, -1, api.OK)
	checkPlace(t, s[:len(s)-4]+" f99))", len(s)-3, api.ErrScope)
	checkPlace(t, s[:len(s)-len("(f92 x f0))")]+" main)", -1, api.OK)
}
