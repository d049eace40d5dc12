package infer

import (
	"fmt"
	"reflect"
	"slices"
	"strings"
	"testing"

	"reverie/api"
	"reverie/parse"
	"reverie/scope"
	"reverie/unify"
)

// parsed is a program whose names are right.
func parsed(t *testing.T, s string) api.Program {
	t.Helper()
	p, pos, e := parse.Program([]byte(s))
	if e != api.OK {
		t.Fatalf("%q (%d bytes) is no program: %d at %d", s, len(s), e, pos)
	}
	if pos, e := scope.Check(p); e != api.OK {
		t.Fatalf("%q: a name is wrong: %d at %d", s, e, pos)
	}
	return p
}

// marked is a text without its mark, and the place of that.
func marked(m string) (string, int) {
	at := strings.Index(m, "|")
	return strings.Replace(m, "|", "", 1), at
}

// clean tells whether no field of a type holds what no sentence names.
func clean(t api.Type) bool {
	if t.Var >= 0 {
		return t.Name == "" && t.Args == nil
	}
	return t.Var == -1 && t.Name != "" && !slices.ContainsFunc(t.Args, func(a api.Type) bool { return !clean(a) })
}

// lists counts in how many places each list of an answer is.
func lists(types []api.Type, seen map[*api.Type]int) {
	if len(types) > 0 {
		seen[&types[0]]++
	}
	for _, t := range types {
		lists(t.Args, seen)
	}
}

// checkAnswer asks what holds of every answer.
func checkAnswer(t *testing.T, p api.Program, types []api.Type, pos int, e api.Errno) {
	t.Helper()
	switch {
	case e == api.OK:
		if pos != -1 || len(types) != len(p.Defs) {
			t.Fatalf("%d types of %d definitions, at %d", len(types), len(p.Defs), pos)
		}
	case e != api.ErrType || len(types) != 0 || !slices.ContainsFunc(p.Defs, func(d api.Def) bool { return d.Pos == pos }):
		t.Fatalf("%d types, at %d, error %d", len(types), pos, e)
	}
	for i, one := range types {
		if !clean(one) {
			t.Fatalf("a type with what no sentence names: %v", one)
		}
		if as := unify.Canon(one); !reflect.DeepEqual(as, one) {
			t.Fatalf("the type %d has other variables than the first ones as they come: %s", i, unify.Text(one))
		}
	}
	seen := map[*api.Type]int{}
	lists(types, seen)
	for _, n := range seen {
		if n > 1 {
			t.Fatal("two lists of an answer share memory")
		}
	}
}

// answer is what Types answers, in a text: the types', or the error's and the place's.
func answer(t *testing.T, p api.Program) string {
	t.Helper()
	types, pos, e := Types(p)
	checkAnswer(t, p, types, pos, e)
	if e != api.OK {
		return fmt.Sprint("none at ", pos)
	}
	var texts []string
	for _, one := range types {
		texts = append(texts, unify.Text(one))
	}
	return strings.Join(texts, "; ")
}

// checkTypes asks for the types of all definitions, in their order.
func checkTypes(t *testing.T, s string, want ...string) {
	t.Helper()
	if got := answer(t, parsed(t, s)); got != strings.Join(want, "; ") {
		t.Errorf("%s: %s, not %s", s, got, strings.Join(want, "; "))
	}
}

// checkNone asks that definitions have no types, and which is told: the one at the mark.
func checkNone(t *testing.T, m string) {
	t.Helper()
	s, at := marked(m)
	if got := answer(t, parsed(t, s)); got != fmt.Sprint("none at ", at) {
		t.Errorf("%s: %s, not none at %d", s, got, at)
	}
}

// datas are types of all sorts, for the tests' expressions.
const datas = "(data List (a) (Nil) (Cons a (List a))) (data P (a b) (P a b)) (data L (a) (L a)) (data U () (U)) (data Fun (x y) (Fun (-> x y)))" +
	" (data E (a b c d e f g h) (E h g f e d c b a)) (data Mix () (M Int (List Bool) (-> Int Cpx)) (N)) (data Ph (a) (Ph)) (data Same (a) (Same a a))" +
	" (data Tree (a) (Leaf) (Node (Tree a) a (Tree a))) (data Nest (a) (End) (Nest a (Nest (P a a)))) (data In (a) (In (Out a) Int)) (data Out (b) (Out b (In b)) (No)) "

// none stands in tables for an expression that has no type.
const none = ""

// checkExpr asks for an expression's type, alone, as the right side of a let, and in a case.
func checkExpr(t *testing.T, x, want string) {
	t.Helper()
	for _, whole := range []string{x, "(let ((it " + x + ")) it)", "(case 1 (_ " + x + "))", "((fn (it) it) " + x + ")"} {
		s := datas + "(def main () 1) |(def it () " + whole + ")"
		if want == none {
			checkNone(t, s)
			continue
		}
		s, _ = marked(s)
		checkTypes(t, s, "Int", want)
	}
}

func checkExprs(t *testing.T, table map[string]string) {
	t.Helper()
	for x, want := range table {
		checkExpr(t, x, want)
	}
}
