package infer

import (
	"fmt"
	"math"
	"reflect"
	"slices"
	"testing"

	"reverie/api"
	"reverie/show"
)

// kept is a value with all that its lists hold, what lies behind their lengths among it.
func kept(v reflect.Value) string {
	switch v.Kind() {
	case reflect.Slice:
		s := fmt.Sprint("[", v.Len(), ":")
		for i := range v.Cap() {
			s += kept(v.Slice(0, v.Cap()).Index(i)) + " "
		}
		return s + "]"
	case reflect.Struct:
		s := "{"
		for i := range v.NumField() {
			s += kept(v.Field(i)) + " "
		}
		return s + "}"
	}
	return fmt.Sprintf("%#v", v.Interface())
}

// turn changes all that an answer holds.
func turn(types []api.Type) {
	for i, one := range types {
		turn(one.Args)
		types[i] = api.Type{Var: 7, Name: "Turned"}
	}
}

// checkSame asks twice, turns each answer, and asks that the program is as it was.
func checkSame(t *testing.T, p api.Program) {
	t.Helper()
	was := kept(reflect.ValueOf(p))
	first := answer(t, p)
	for range 2 {
		types, _, _ := Types(p)
		if now := kept(reflect.ValueOf(p)); now != was {
			t.Fatalf("%s became %s", was, now)
		}
		turn(types)
		if now := kept(reflect.ValueOf(p)); now != was {
			t.Fatalf("with an answer that was turned %s became %s", was, now)
		}
		if again := answer(t, p); again != first {
			t.Fatalf("%s: %s, and then %s", show.Program(p), first, again)
		}
	}
}

// wide is a program in which other things lie behind the lengths of all lists.
func wide(p api.Program) api.Program {
	one := api.Expr{Kind: api.VarE, Name: "nope"}
	for i, d := range p.Datas {
		for j, k := range d.Cons {
			k.Fields = spare(k.Fields, api.TypeE{Name: "Nope"}, wideType)
			d.Cons[j] = k
		}
		d.Cons = spare(d.Cons, api.Con{Name: "Nope"}, nil)
		d.Params = spare(d.Params, "nope", nil)
		p.Datas[i] = d
	}
	for i, d := range p.Defs {
		d.Params = spare(d.Params, "nope", nil)
		d.Body = wideExpr(d.Body)
		p.Defs[i] = d
	}
	return api.Program{Datas: spare(p.Datas, api.Data{Name: "Nope"}, nil), Defs: spare(p.Defs, api.Def{Name: "nope", Body: one}, nil)}
}

// spare has room behind a list's length, in which another part lies.
func spare[T any](list []T, other T, part func(T) T) []T {
	list = slices.Clone(list)
	for i, one := range list {
		if part != nil {
			list[i] = part(one)
		}
	}
	return append(list, other, other)[:len(list)]
}

func wideType(t api.TypeE) api.TypeE {
	t.Args = spare(t.Args, api.TypeE{Name: "Nope"}, wideType)
	return t
}

func widePat(p api.Pat) api.Pat {
	p.Args = spare(p.Args, api.Pat{Kind: api.VarP, Name: "nope"}, widePat)
	return p
}

func wideExpr(x api.Expr) api.Expr {
	x.Names = spare(x.Names, "nope", nil)
	x.Args = spare(x.Args, api.Expr{Kind: api.VarE, Name: "nope"}, wideExpr)
	x.Alts = spare(x.Alts, api.Alt{Body: api.Expr{Kind: api.ConE, Name: "Nope"}}, func(a api.Alt) api.Alt {
		return api.Alt{Pat: widePat(a.Pat), Body: wideExpr(a.Body)}
	})
	return x
}

func TestNothingIsChanged(t *testing.T) {
	t.Parallel()
	texts := []string{
		"(def main () 1)", "(def main () (+ 1 True))", "(def main () (fn (x) x))", datas + "(def main () (let ((f (fn (x y) (P y x))) (g (fn (x) (g x)))) (case (f 1 True) ((P True 1) (g 2)) ((P _ y) (f y (f g 1))) (_ (f 1 1)))))",
		datas + "(def main () (E 1 2 3 4 5 6 7 8)) (def f (a b) (case a ((Nest 1 (Nest (P 2 x) _)) (M x Nil (fn (y) (cpx y b)))))) (def g () (let ((a (h 1)) (b (h True))) (h h))) (def h (x) x)",
	}
	for _, s := range texts {
		p := parsed(t, s)
		want := answer(t, p)
		checkSame(t, p)
		p = wide(parsed(t, s))
		if got := answer(t, p); got != want {
			t.Errorf("%s: what lies behind the lists' lengths was read: %s, not %s", s, got, want)
		}
		checkSame(t, p)
	}
	held := 0
	for i := range 200 {
		if p, ok := made(t, 200000+i, 400); ok {
			held++
			want := answer(t, p)
			checkSame(t, p)
			if got := answer(t, wide(p)); got != want {
				t.Fatalf("%s: what lies behind the lists' lengths was read: %s, not %s", show.Program(p), got, want)
			}
		}
	}
	if held < 150 {
		t.Error("too few programs were held:", held)
	}
}

// TestOrderOfCalls: an answer doesn't hang on the calls ahead of it.
func TestOrderOfCalls(t *testing.T) {
	var list []api.Program
	var want []string
	for i := range 60 {
		if p, ok := made(t, 300000+i, 100); ok {
			list, want = append(list, p), append(want, answer(t, p))
		}
	}
	for i := range list {
		i = len(list) - 1 - i
		Types(list[(i*7)%len(list)])
		if got := answer(t, list[i]); got != want[i] {
			t.Errorf("%s: %s, and then %s", show.Program(list[i]), want[i], got)
		}
	}
}

// TestOtherParts has parts that layer 2 never answers, or names that aren't right: the calls end, and don't panic.
func TestOtherParts(t *testing.T) {
	kinds := []int{math.MinInt, -1, 9, 99, math.MaxInt}
	for kind := api.IntE; kind <= api.FailE; kind++ {
		kinds = append(kinds, kind)
	}
	data := api.Data{Name: "T", Params: []string{"a"}, Cons: []api.Con{{Name: "x", Fields: []api.TypeE{{Name: "a", Args: make([]api.TypeE, 2)}, {}}}, {}}}
	for _, kind := range kinds {
		for i := range 5 * 5 * 5 * 3 {
			x := api.Expr{Kind: kind, Name: []string{"", "x", "+"}[i/125], Names: make([]string, i%5), Args: make([]api.Expr, i/5%5), Alts: make([]api.Alt, i/25%5)}
			for j := range x.Args {
				x.Args[j].Kind = kinds[(i+j)%len(kinds)]
			}
			for j := range x.Alts {
				x.Alts[j].Pat = api.Pat{Kind: kinds[j], Args: []api.Pat{{Kind: api.VarP}, {Kind: kind, Name: "x"}}}
			}
			for _, params := range [][]string{nil, {"x"}, {"", ""}} {
				Types(api.Program{Datas: []api.Data{data, data}, Defs: []api.Def{{Name: "main", Params: params, Body: x}, {Name: "x", Body: x}, {Name: "x"}}})
			}
		}
	}
	if types, pos, e := Types(api.Program{}); len(types) != 0 || pos != -1 || e != api.OK {
		t.Error("of no definitions:", types, pos, e)
	}
}
