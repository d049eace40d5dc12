package made_test

import (
	"reflect"
	"strconv"
	"strings"
	"testing"

	"reverie/api"
	"reverie/made"
	"reverie/scope"
	"reverie/show"
)

// TestTexts: what is made has types, if it isn't too long, and the same comes of the same state and rule.
func TestTexts(t *testing.T) {
	texts := map[string]int{}
	for i := range 300 {
		rule := made.Rule{Odd: 20 + i, Alts: 1 + i%6, Deep: 1 + i%4}
		s := made.Text(i, rule)
		if again := made.Text(i, rule); again != s {
			t.Fatalf("%s\nand then\n%s", s, again)
		}
		if len(s) > api.MaxSource {
			continue
		}
		if _, wrong := made.Read(s); wrong != "" {
			t.Fatal(wrong)
		}
		texts[s]++
	}
	if len(texts) < 200 {
		t.Error("too few texts:", len(texts))
	}
}

// TestWild: names hold in what is made, which has parts of all kinds, and the same comes of the same state and names.
func TestWild(t *testing.T) {
	kinds := map[int]int{}
	for i := range 300 {
		for _, names := range [][]string{made.InTexts(), append(made.InTexts(), made.InNoText()...), {"main", "x"}} {
			p := made.Wild(i, names)
			if again := made.Wild(i, names); !made.Equal(again, p) {
				t.Fatalf("%s\nand then\n%s", show.Program(p), show.Program(again))
			}
			if pos, e := scope.Check(p); e != api.OK {
				t.Fatal(pos, show.Program(p))
			}
			for _, d := range p.Defs {
				made.Each(d.Body, func(x api.Expr) { kinds[x.Kind]++ }, func(p api.Pat) { kinds[-1-p.Kind]++ })
			}
		}
	}
	for kind := -1 - api.ConP; kind <= api.FailE; kind++ {
		if kinds[kind] < 1000 {
			t.Error("too few of a kind:", kind, kinds[kind])
		}
	}
}

// parts are all that a program has: numbers, names, and lists, each of which may be turned.
func parts(v reflect.Value, each func(reflect.Value)) {
	switch v.Kind() {
	case reflect.Struct:
		for i := range v.NumField() {
			parts(v.Field(i), each)
		}
	case reflect.Slice:
		each(v)
		for i := range v.Len() {
			parts(v.Index(i), each)
		}
	default:
		each(v)
	}
}

// turn changes a part.
func turn(v reflect.Value) {
	switch v.Kind() {
	case reflect.String:
		v.SetString(v.String() + "'")
	case reflect.Slice:
		v.Set(reflect.Append(v, reflect.Zero(v.Type().Elem())))
	default:
		v.SetInt(v.Int() + 1)
	}
}

// TestEqual: programs are equal, if all in them is.
func TestEqual(t *testing.T) {
	p, wrong := made.Named("(data T (a) (A) (B a (T a))) (def f (x y) (let ((z 1)) (case (x y) ((B u (B 3 _)) (fn (v) (+ v z))) (_ A)))) (def main () 1)")
	if wrong != "" {
		t.Fatal(wrong)
	}
	count := 0
	parts(reflect.ValueOf(&p).Elem(), func(reflect.Value) { count++ })
	for i := range count {
		q := made.Copied(p)
		if !made.Equal(p, q) {
			t.Fatal("a copy isn't equal")
		}
		at := 0
		parts(reflect.ValueOf(&q).Elem(), func(v reflect.Value) {
			if at++; at == i+1 {
				turn(v)
			}
		})
		if made.Equal(p, q) {
			t.Error("a turned one is equal:", i, show.Program(q))
		}
	}
	if count < 100 {
		t.Error("too few parts:", count)
	}
}

// TestWhole: a wide program's lists go on with other things, that a whole one's have.
func TestWhole(t *testing.T) {
	p := made.Wild(1, made.InTexts())
	wide := made.Wide(p)
	if whole := made.Whole(wide); !made.Equal(wide, p) || made.Equal(whole, p) || len(whole.Defs) < len(p.Defs)+2 || len(whole.Defs[0].Params) < len(p.Defs[0].Params)+2 {
		t.Error("nothing lies behind the lengths of", show.Program(whole))
	}
}

// TestRenamed has other names where names are bound, and stand for something, alone.
func TestRenamed(t *testing.T) {
	p, wrong := made.Named("(data A (x) (A x)) (def f (x) (let ((y x)) (case y ((A z) (fn (v) (+ z (v f)))) (_ x)))) (def main () f)")
	if wrong != "" {
		t.Fatal(wrong)
	}
	was := made.Copied(p)
	q := made.Renamed(p, map[string]string{"x": "a", "y": "b", "z": "c", "v": "d", "f": "e", "A": "g", "+": "h"})
	if want := "(data A (x) (A x))\n(def f (a) (let ((b a)) (case b ((A c) (fn (d) (+ c (d e)))) (_ a))))\n(def main () e)\n"; show.Program(q) != want || !made.Equal(p, was) {
		t.Error(show.Program(q), show.Program(p))
	}
}

// TestDeepest: a text may have 40 lists in each other.
func TestDeepest(t *testing.T) {
	p, wrong := made.Deepest("(def f (x) @) (def main () 1)", "x", func(i int) string { return "(+ @ " + strconv.Itoa(i) + ")" })
	if want := "(def f (x) " + made.Inside(39, "(+ @", "x"); wrong != "" || !strings.HasPrefix(show.Program(p), want+" 0) 1) 2)") {
		t.Error(wrong, show.Program(p))
	}
	if _, wrong := made.Deepest("(def main () @)", "x", func(int) string { return "(+ @ 1)" }); wrong == "" {
		t.Error("a name that doesn't hold")
	}
}
