package infer

import (
	"fmt"
	"strings"
	"testing"
)

func TestConstructors(t *testing.T) {
	checkExprs(t, map[string]string{
		"True": "Bool", "False": "Bool", "U": "U", "Nil": "(List t0)", "Leaf": "(Tree t0)", "Ph": "(Ph t0)", "N": "Mix", "End": "(Nest t0)", "No": "(Out t0)",
		"(Cons 1 Nil)": "(List Int)", "(Cons Nil Nil)": "(List (List t0))", "(Cons (fn (x) x) Nil)": "(List (-> t0 t0))",
		"(Cons (fn (x) x) (Cons (fn (y) (+ y 1)) Nil))": "(List (-> Int Int))",
		"(Cons 1 2)": none, "(Cons 1 (Cons True Nil))": none, "(Cons Nil (Cons 1 Nil))": none, "(Cons 1 U)": none,
		"(P 1 True)": "(P Int Bool)", "(P Nil Nil)": "(P (List t0) (List t1))", "(fn (x y) (P y x))": "(-> t0 (-> t1 (P t1 t0)))",
		"(L (L (L 1)))": "(L (L (L Int)))", "(fn (x) (L x))": "(-> t0 (L t0))",
		"(Fun (fn (x) x))": "(Fun t0 t0)", "(Fun (fn (x) (+ x 1)))": "(Fun Int Int)", "(Fun (fn (x y) x))": "(Fun t0 (-> t1 t0))", "(Fun 1)": none, "(Fun U)": none,
		"(E 1 True U (cpx 1 2) Nil Ph (L 1) N)":      "(E Mix (L Int) (Ph t0) (List t1) Cpx U Bool Int)",
		"(fn (a b c d e f g h) (E a b c d e f g h))": "(-> t0 (-> t1 (-> t2 (-> t3 (-> t4 (-> t5 (-> t6 (-> t7 (E t7 t6 t5 t4 t3 t2 t1 t0)))))))))",
		"(M 1 (Cons True Nil) (fn (x) (cpx x x)))":   "Mix", "(M 1 Nil (fn (x) (cpx 1 2)))": "Mix",
		"(M True Nil (fn (x) (cpx x x)))": none, "(M 1 (Cons 1 Nil) (fn (x) (cpx x x)))": none, "(M 1 Nil (fn (x) x))": none, "(M 1 Nil (fn (x) (cadd x x)))": none,
		"(Same 1 2)": "(Same Int)", "(Same 1 True)": none, "(fn (x y) (Same x y))": "(-> t0 (-> t0 (Same t0)))", "(fn (x) (Same x (L x)))": none,
		"(Node Leaf 1 (Node Leaf 2 Leaf))": "(Tree Int)", "(Node Leaf 1 (Node Leaf True Leaf))": none, "(Node Leaf Leaf Leaf)": "(Tree (Tree t0))",
		"(Nest 1 End)": "(Nest Int)", "(Nest 1 (Nest (P 2 3) End))": "(Nest Int)", "(Nest 1 (Nest (P 2 3) (Nest (P (P 4 5) (P 6 7)) End)))": "(Nest Int)",
		"(Nest 1 (Nest 2 End))": none, "(Nest 1 (Nest (P 2 True) End))": none, "(fn (x y) (Nest x (Nest y End)))": "(-> t0 (-> (P t0 t0) (Nest t0)))",
		"(In No 1)": "(In t0)", "(Out 1 (In No 2))": "(Out Int)", "(Out 1 (In (Out 2 (In No 1)) 2))": "(Out Int)", "(Out 1 (In (Out True (In No 1)) 2))": none, "(In (In No 1) 1)": none,
		"((L 1) 2)": none,
	})
}

// TestCasesOnPatterns has each kind of pattern, with what is looked at right and wrong.
func TestCasesOnPatterns(t *testing.T) {
	checkExprs(t, map[string]string{
		"(case 1 (_ True))": "Bool", "(case True (_ 1))": "Int", "(fn (x) (case x (_ 1)))": "(-> t0 Int)",
		"(case 1 (x x))": "Int", "(fn (x) (case x (y y)))": "(-> t0 t0)", "(fn (x) (case x (x (+ x 1))))": "(-> Int Int)", "(fn (x) (case (L x) (x x)))": "(-> t0 (L t0))",
		"(case 1 (2 True) (3 False))": "Bool", "(fn (x) (case x (-1 U)))": "(-> Int U)", "(case True (1 2))": none, "(fn (x) (case x (1 x)))": "(-> Int Int)",
		"(case True (False 1) (True 2))": "Int", "(case 1 (True 1))": none, "(fn (x) (case x (True x)))": "(-> Bool Bool)", "(fn (x) (case x (Nil x)))": "(-> (List t0) (List t0))",
		"(case 1 (_ 1) (True 2))": none, "(case Nil (1 1))": none, "(fn (x) (case x (1 1) (True 2)))": none, "(fn (x) (case x (Nil 1) (Leaf 2)))": none,
		"(fn (x) (case x (Nil 0) ((Cons y _) y)))":                                         "(-> (List Int) Int)",
		"(fn (x) (case x ((Cons y z) (P z y))))":                                           "(-> (List t0) (P (List t0) t0))",
		"(fn (x) (case x ((P y z) (y z))))":                                                "(-> (P (-> t0 t1) t0) t1)",
		"(fn (x) (case x ((P y z) (y x))))":                                                none,
		"(fn (x) (case x ((Cons 1 _) True) ((Cons _ y) y)))":                               none,
		"(fn (x) (case x ((Cons 1 _) Nil) ((Cons _ y) y)))":                                "(-> (List Int) (List Int))",
		"(fn (x) (case x ((P 1 True) 1) ((P y z) y)))":                                     "(-> (P Int Bool) Int)",
		"(fn (x) (case x ((P 1 y) y) ((P True y) y)))":                                     none,
		"(fn (x) (case x ((P (P a b) (P c d)) (E a b c d a b c d))))":                      "(-> (P (P t0 t1) (P t2 t3)) (E t3 t2 t1 t0 t3 t2 t1 t0))",
		"(fn (x) (case x ((Fun f) (f 1))))":                                                "(-> (Fun Int t0) t0)",
		"(fn (x) (case x ((Fun f) (P (f 1) (f True)))))":                                   none,
		"(fn (x) (case x ((Same a b) (P (+ a 1) b))))":                                     "(-> (Same Int) (P Int Int))",
		"(fn (x) (case x ((Same 1 True) 1)))":                                              none,
		"(fn (x) (case x ((M a b c) (P a (P b c))) (N (P 1 (P Nil (fn (z) (cpx z z)))))))": "(-> Mix (P Int (P (List Bool) (-> Int Cpx))))",
		"(fn (x) (case x ((M a b c) (c b))))":                                              none,
		"(fn (x) (case x ((Nest y (Nest z _)) (P y z))))":                                  "(-> (Nest t0) (P t0 (P t0 t0)))",
		"(fn (x) (case x ((Nest y (Nest (P z u) (Nest (P v w) _))) (P z v))))":             "(-> (Nest t0) (P t0 (P t0 t0)))",
		"(fn (x) (case x ((Nest 1 (Nest 2 _)) 1)))":                                        none,
		"(fn (x) (case x ((E a _ 3 _ Nil y True _) (P a y))))":                             "(-> (E t0 Bool t1 (List t2) t3 Int t4 t5) (P t5 t1))",
		"(case (Cons 1 Nil) ((Cons x y) (P y x)))":                                         "(P (List Int) Int)",
		"(case 1 ((Cons x y) x))":                                                          none,
		"(case (fn (x) x) (f (P (f 1) (f 2))))":                                            "(P Int Int)",
		"(case (fn (x) x) (f (P (f 1) (f True))))":                                         none,
	})
}

// TestCaseExpressions: all that stand behind patterns have the type of the case.
func TestCaseExpressions(t *testing.T) {
	checkExprs(t, map[string]string{
		"(case 1 (1 2) (2 3) (_ 4))": "Int", "(case 1 (1 2) (2 True))": none, "(case 1 (1 True) (2 False) (_ 1))": none,
		"(case 1 (1 Nil) (2 (Cons 1 Nil)) (3 Nil))": "(List Int)", "(case 1 (1 (Cons True Nil)) (2 (Cons 1 Nil)))": none,
		"(fn (x y) (case 1 (1 x) (_ y)))": "(-> t0 (-> t0 t0))", "(fn (x y z) (case x (True y) (False z)))": "(-> Bool (-> t0 (-> t0 t0)))",
		"(fn (x) (case x (y x) (z (L z))))": none, "(fn (f) (case f (g (g 1)) (h (h True))))": none, "(fn (x) (case 1 (1 (+ x 1)) (2 (re x))))": none,
		"(fn (x) (case x (y (+ y 1)) (z z)))": "(-> Int Int)", "(fn (x) (case 1 (x x) (_ x)))": "(-> Int Int)",
		"(fn (x) (case 1 (x (P x x)) (_ (P 1 x))))": "(-> Int (P Int Int))",
		"(case (+ 1 True) (_ 1))":                   none, "(case 1 (_ (+ 1 True)))": none, "(case (case 1 (x (L x))) ((L y) (+ y 1)))": "Int",
	})
	var alts strings.Builder
	for i := range 15 {
		fmt.Fprintf(&alts, "(%d %d)", i, i)
	}
	checkExpr(t, "(case 1 "+alts.String()+"(_ 1))", "Int")
	checkExpr(t, "(case 1 "+alts.String()+"(_ True))", none)
	checkExpr(t, "(case 1 "+alts.String()+"(True 1))", none)
	checkExpr(t, "(case True "+alts.String()+"(_ 1))", none)
}
