package sense_test

import (
	"fmt"
	"math"
	"reflect"
	"strings"
	"sync"
	"testing"

	"reverie/api"
	"reverie/made"
	"reverie/parse"
	"reverie/plane"
	"reverie/sense"
	"reverie/show"
)

// kept is a value with all that its lists hold, what lies behind their lengths among it.
func kept(v any) string {
	var s strings.Builder
	keep(reflect.ValueOf(v), &s)
	return s.String()
}

func keep(v reflect.Value, s *strings.Builder) {
	switch v.Kind() {
	case reflect.Slice:
		fmt.Fprint(s, "[", v.Len(), ":")
		for i := range v.Cap() {
			keep(v.Slice(0, v.Cap()).Index(i), s)
		}
		s.WriteString("]")
	case reflect.Struct:
		s.WriteString("{")
		for i := range v.NumField() {
			keep(v.Field(i), s)
		}
		s.WriteString("}")
	case reflect.String:
		fmt.Fprintf(s, "%q ", v.String())
	default:
		fmt.Fprint(s, v.Int(), " ")
	}
}

// turn changes all that a tree holds.
func turn(tree *api.Tree) {
	for i := range tree.Args {
		turn(&tree.Args[i])
	}
	*tree = api.Tree{Name: "Turned", Int: 7, Re: 7, Im: 7}
}

// trees counts in how many places each list of a tree is.
func trees(tree api.Tree, seen map[*api.Tree]int) {
	if len(tree.Args) > 0 {
		seen[&tree.Args[0]]++
	}
	for _, a := range tree.Args {
		trees(a, seen)
	}
}

// checkSame asks twice, turns each answer, and asks that the program is as it was.
func checkSame(t *testing.T, p api.Program, fuel int) {
	t.Helper()
	was := kept(p)
	first := answer(t, p, fuel)
	for range 2 {
		out := sense.Run(p, fuel)
		if now := kept(p); now != was {
			t.Fatalf("%s became %s", was, now)
		}
		seen := map[*api.Tree]int{}
		trees(out.Tree, seen)
		for _, n := range seen {
			if n > 1 {
				t.Fatalf("%s: two lists of an answer share memory", show.Program(p))
			}
		}
		turn(&out.Tree)
		if now := kept(p); now != was {
			t.Fatalf("with an answer that was turned %s became %s", was, now)
		}
		if again := answer(t, p, fuel); again != first {
			t.Fatalf("%s: %s, and then %s", show.Program(p), first, again)
		}
	}
}

func TestNothingIsChanged(t *testing.T) {
	t.Parallel()
	texts := []string{
		"(def main () 1)", "(def main () (/ 1 0))", "(def main () (let ((x x)) x))", withMain("", "(case 1 (2 3))"), withMain("", "(let ((x (P 1 2))) (P x (P x x)))"), withMain("", "(E 1 2 3 4 5 6 7 8)"), withMain("", "(up 1 20)"), withMain("", "(let ((s (S s))) s)"), withMain(makers, "(shared 5)"),
		withMain("(def ones () (Cons 1 ones))", "(case ones ((Cons a (Cons b _)) (+ a b)) (_ 0))"), withMain("", "(let ((f (fn (a b c) (E a b c 0 0 0 0 0)))) (let ((g (f 1))) (P (g 2 3) ((g 4) 5))))"), withMain("", "(case (P 1 (P 2 3)) ((P 1 (P 1 x)) (P x (P x x))) ((P a (P b c)) (P c (P b a))) (_ (P 0 (P 0 0))))"), withMain("(def f (x) (f x))", "(f 1)"),
	}
	for _, s := range texts {
		p := parsed(t, s)
		want := answer(t, p, 100000)
		checkSame(t, p, 100000)
		p = made.Wide(p)
		if got := answer(t, p, 100000); got != want {
			t.Errorf("%s: what lies behind the lists' lengths was read: %s, not %s", s, got, want)
		}
		checkSame(t, p, 100000)
	}
	held := 0
	for i := range 150 {
		if p, ok := madeProgram(t, 300000+i, []int{20, 60, 200}[i%3]); ok {
			held++
			want := answer(t, p, 20000)
			checkSame(t, p, 20000)
			if got := answer(t, made.Wide(p), 20000); got != want {
				t.Fatalf("%s: what lies behind the lists' lengths was read: %s, not %s", show.Program(p), got, want)
			}
			checkSame(t, made.Wide(p), 500)
		}
	}
	if held < 100 {
		t.Error("too few programs were held:", held)
	}
}

// TestOrderOfCalls: an answer doesn't hang on the calls ahead of it, nor on such that go on beside it.
func TestOrderOfCalls(t *testing.T) {
	t.Parallel()
	var list []api.Program
	var want []string
	for i := range 60 {
		if p, ok := madeProgram(t, 400000+i, 60); ok {
			list, want = append(list, p), append(want, answer(t, p, 20000))
		}
	}
	for i := range list {
		i = len(list) - 1 - i
		sense.Run(list[(i*7)%len(list)], 1000*i)
		if got := answer(t, list[i], 20000); got != want[i] {
			t.Errorf("%s: %s, and then %s", show.Program(list[i]), want[i], got)
		}
	}
	var group sync.WaitGroup
	for range 4 {
		group.Go(func() {
			for i, p := range list {
				if out := sense.Run(p, 20000); out.Error == api.OK && show.Tree(out.Tree) != want[i] || out.Error != api.OK && wrong(out.Error) != want[i] {
					t.Errorf("%s: %s, and beside others %v", show.Program(p), want[i], out)
				}
			}
		})
	}
	group.Wait()
}

// TestOtherParts has parts that layer 2 never answers, or names and types that aren't right: the calls end, and don't panic.
func TestOtherParts(t *testing.T) {
	t.Parallel()
	kinds := []int{math.MinInt, -1, 9, 99, math.MaxInt}
	for kind := api.IntE; kind <= api.FailE; kind++ {
		kinds = append(kinds, kind)
	}
	for _, kind := range kinds {
		for i := range 5 * 5 * 5 * 4 {
			x := api.Expr{Kind: kind, Name: []string{"", "x", "+", "re"}[i/125], Names: make([]string, i%5), Args: make([]api.Expr, i/5%5), Alts: make([]api.Alt, i/25%5)}
			for j := range x.Args {
				x.Args[j].Kind = kinds[(i+j)%len(kinds)]
				x.Args[j].Name = []string{"x", "y", "+"}[i%3]
			}
			for j := range x.Alts {
				x.Alts[j].Pat = api.Pat{Kind: kinds[(i+j)%len(kinds)], Name: "x", Args: []api.Pat{{Kind: api.VarP}, {Kind: kind, Name: "x"}}[:i%3]}
				x.Alts[j].Body.Kind = kinds[(i*j)%len(kinds)]
			}
			for _, params := range [][]string{nil, {"x"}, {"", ""}} {
				p := api.Program{Defs: []api.Def{{Name: "main", Params: params, Body: x}, {Name: "x", Body: x}, {Name: "y", Params: []string{"x"}, Body: x}, {Name: "y"}}}
				for _, fuel := range []int{math.MinInt, 0, 1, 5, 1000} {
					sense.Run(p, fuel)
				}
			}
		}
	}
	for _, of := range []float64{math.NaN(), math.Inf(1), math.Inf(-1), 0.5, 1e300, 1 << 23} {
		for name := range api.Prims() {
			sense.Prim(name, sense.Operand{P: plane.Point(complex(of, 1))}, sense.Operand{N: 1, P: plane.Point(complex(1, of))})
		}
	}
	sense.Run(api.Program{}, 1000)
	sense.Run(api.Program{}, math.MaxInt)
	for _, s := range []string{"(def main () x)", "(def main () (1 2))", "(def main () (+ 1 True))", "(def main () (re 1))", "(def main () (fn (x) x))", "(def main (x) x)", "(def f () 1)", "(def main () (C (fn (x) x)))", "(def main () (case (C 1) ((C x y) 1) (1 2)))", "(def main () (case 1 ((C x) 1) (True 2)))", "(def main () ((fn (x) (x x)) (fn (x) (x x))))", "(def main () (case 1 ((C x x) x)))", "(def main () (let ((x 1) (x 2)) x))"} {
		untyped(t, s)
	}
}

// untyped runs a program that needn't have types.
func untyped(t *testing.T, s string) {
	t.Helper()
	p, pos, e := parse.Program([]byte(s))
	if e != api.OK {
		t.Fatalf("%q is no program: %d at %d", s, e, pos)
	}
	for _, fuel := range []int{math.MinInt, 0, 1, 5, 1000} {
		sense.Run(p, fuel)
	}
}
