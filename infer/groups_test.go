package infer

import (
	"fmt"
	"slices"
	"strings"
	"testing"
)

// orders calls look with the texts in each order.
func orders(list []string, look func([]string)) {
	if len(list) == 0 {
		look(nil)
		return
	}
	for i, first := range list {
		orders(slices.Delete(slices.Clone(list), i, i+1), func(rest []string) {
			look(append([]string{first}, rest...))
		})
	}
}

const pairs = "(data P (a b) (P a b)) (data L (a) (L a)) "

// checkDefs asks for the types of definitions, that are told by turns with their texts, in each order.
func checkDefs(t *testing.T, defs ...string) {
	t.Helper()
	types := map[string]string{}
	var texts []string
	for i := 0; i < len(defs); i += 2 {
		texts = append(texts, defs[i])
		types[defs[i]] = defs[i+1]
	}
	orders(texts, func(list []string) {
		t.Helper()
		var want []string
		for _, text := range list {
			want = append(want, types[text])
		}
		checkTypes(t, pairs+strings.Join(list, " "), want...)
	})
}

func TestDefinitions(t *testing.T) {
	checkDefs(t, "(def main () 1)", "Int", "(def id (x) x)", "(-> t0 t0)", "(def k (x y) x)", "(-> t0 (-> t1 t0))", "(def u () (k id))", "(-> t0 (-> t1 t1))")
	checkDefs(t, "(def main () (P (id 1) (id True)))", "(P Int Bool)", "(def id (x) x)", "(-> t0 t0)")
	checkDefs(t, "(def main () (f 1 2 3 4 5 6 7 8))", "Int", "(def f (a b c d e f g h) (+ a h))", "(-> Int (-> t0 (-> t1 (-> t2 (-> t3 (-> t4 (-> t5 (-> Int Int))))))))")
	checkDefs(t, "(def main () main)", "t0")
	checkDefs(t, "(def main () (f main))", "t0", "(def f (x) (g x))", "(-> t0 t1)", "(def g (x) (f x))", "(-> t0 t1)")
	checkDefs(t, "(def main () (+ 1 a))", "Int", "(def a () b)", "t0", "(def b () c)", "t0", "(def c () a)", "t0")
	checkDefs(t, "(def main () (+ 1 a))", "Int", "(def a () b)", "Int", "(def b () c)", "Int", "(def c () (case 1 (1 a) (_ 7)))", "Int")
}

// TestNamesOfParameters: a parameter's name holds in its body, and there in a definition's place.
func TestNamesOfParameters(t *testing.T) {
	checkDefs(t, "(def main () 1)", "Int", "(def f (main) (cmul main main))", "(-> Cpx Cpx)", "(def g (f) (f True))", "(-> (-> Bool t0) t0)", "(def h (h) h)", "(-> t0 t0)", "(def i () (fn (h g) (h g)))", "(-> (-> t0 t1) (-> t0 t1))")
	checkDefs(t, "(def main () 1)", "Int", "(def f (g) g)", "(-> t0 t0)", "(def g () (P (f 1) (f True)))", "(P Int Bool)")
	checkDefs(t, "(def main () 1)", "Int", "(def f (x) (let ((g (fn (y) (P x y)))) (P (g 1) (g True))))", "(-> t0 (P (P t0 Int) (P t0 Bool)))", "(def g (f) (f n))", "(-> (-> Int t0) t0)", "(def n () 1)", "Int")
}

// TestOneGroup: definitions that use each other have one type each in all of their expressions, and any behind these.
func TestOneGroup(t *testing.T) {
	checkDefs(t, "(def main () (P (f 1) (f True)))", "(P t0 t1)", "(def f (x) (g x))", "(-> t0 t1)", "(def g (x) (f x))", "(-> t0 t1)")
	checkDefs(t, "(def main () 1)", "Int", "(def f (x) (case 1 (1 x) (_ (g x))))", "(-> t0 t0)", "(def g (x) (f x))", "(-> t0 t0)", "(def h () (P (f 1) (g True)))", "(P Int Bool)")
	checkDefs(t, "(def main () 1)", "Int", "(def f (x) (case 1 (1 x) (_ (g 1 x))))", "(-> t0 t0)", "(def g (y x) (case (h y) (_ (f x))))", "(-> Int (-> t0 t0))", "(def h (x) x)", "(-> t0 t0)")
	checkDefs(t, "(def main () 1)", "Int", "(def f (x) (case 1 (1 x) (_ (g 1 x))))", "(-> Int Int)", "(def g (y x) (case (h y) (_ (f x))))", "(-> Int (-> Int Int))", "(def h (x) (case 1 (1 x) (_ (g x x))))", "(-> Int Int)")
	checkDefs(t, "(def main () 1)", "Int", "(def even (n) (case n (0 True) (_ (odd (- n 1)))))", "(-> Int Bool)", "(def odd (n) (case n (0 False) (_ (even (- n 1)))))", "(-> Int Bool)", "(def both () (P even odd))", "(P (-> Int Bool) (-> Int Bool))")
}

// toldOf asks that of definitions without their own marks' place, in one text, the marked one is told.
func toldOf(t *testing.T, defs ...string) {
	t.Helper()
	checkNone(t, pairs+strings.Join(defs, " "))
}

// TestFirstOfGroup: of a group that has no types the first definition is told, whichever it is that is wrong.
func TestFirstOfGroup(t *testing.T) {
	toldOf(t, "(def main () 1)", "|(def a () (+ 1 True))")
	toldOf(t, "|(def main () (+ 1 True))", "(def a () 1)")
	toldOf(t, "|(def a () b)", "(def main () 1)", "(def b () (case a (_ (+ 1 True))))")
	toldOf(t, "(def main () 1)", "|(def a () (case c (_ (+ 1 True))))", "(def b () 1)", "(def c () a)")
	toldOf(t, "(def main () 1)", "|(def c (x) (a x))", "(def b () (P (a 1) (a True)))", "(def a (x) (case b (_ (c x))))")
	toldOf(t, "|(def f (x) (P (g x) (g 1)))", "(def main () 1)", "(def g (x) (case (f True) (_ x)))")
	toldOf(t, "(def f (x) (P (g x) (g 1)))", "(def main () 1)", "(def g (x) x)", "|(def h () (+ (f 1) 1))")
}

// TestFirstGroup has several groups without types: the one that comes first in layer 5's order is told.
func TestFirstGroup(t *testing.T) {
	const wrong = "(+ 1 True)"
	toldOf(t, "(def main () 1)", "|(def a () "+wrong+")", "(def b () "+wrong+")")
	toldOf(t, "(def a () (+ b True))", "|(def b () "+wrong+")", "(def main () 1)")
	toldOf(t, "(def a () (+ b True))", "(def main () 1)", "|(def b () (P c "+wrong+"))", "(def c () 1)", "(def d () "+wrong+")")
	toldOf(t, "(def a () (P c "+wrong+"))", "|(def b () "+wrong+")", "(def c () 1)", "(def main () 1)")
	toldOf(t, "|(def a () (P c "+wrong+"))", "(def main () 1)", "(def c () 1)", "(def b () "+wrong+")")
	toldOf(t, "(def a () (P b "+wrong+"))", "(def b () c)", "(def c () d)", "|(def d () "+wrong+")", "(def main () 1)")
	toldOf(t, "(def a () (P b "+wrong+"))", "|(def b () c)", "(def c () (P b "+wrong+"))", "(def main () "+wrong+")")
	toldOf(t, "(def a () (P d "+wrong+"))", "(def main () 1)", "|(def b () (P c "+wrong+"))", "(def c () b)", "(def d () e)", "(def e () d)")
	toldOf(t, "(def main () (fn (x) x))", "|(def a () "+wrong+")")
	toldOf(t, "(def main () (P a (fn (x) x)))", "(def b () 1)", "|(def a () "+wrong+")")
}

// TestManyDefinitions has as many as there may be, in a chain either way, in one group, and each for itself.
func TestManyDefinitions(t *testing.T) {
	const n = 99
	nexts := map[string]func(i int) int{"down": func(i int) int { return i + 1 }, "up": func(i int) int { return i - 1 }, "round": func(i int) int { return (i + 1) % n }, "apart": func(i int) int { return i }}
	for what, next := range nexts {
		for body, want := range map[string]string{"(%s x)": "(-> t0 t0)", "(case 1(1 x)(_(%s x)))": "(-> t0 t0)", "(case x(1 2)(_(%s x)))": "(-> Int Int)", "(case x(True 1)(2(%s x)))": none} {
			var text strings.Builder
			for i := range n {
				use := "(fn(y)y)"
				if j := next(i); j >= 0 && j < n {
					use = fmt.Sprint("f", j)
				}
				fmt.Fprintf(&text, "(def f%d(x)"+body+")", i, use)
			}
			s := text.String() + "(def main () 1)"
			if body == "(%s x)" && (what == "round" || what == "apart") {
				want = "(-> t0 t1)" // as there is no end that answers what it is given
			}
			switch {
			case want != none:
				checkTypes(t, s, append(slices.Repeat([]string{want}, n), "Int")...)
			case what == "down":
				at := strings.Index(s, "(def f98(")
				checkNone(t, s[:at]+"|"+s[at:])
			default:
				checkNone(t, "|"+s)
			}
		}
	}
}
