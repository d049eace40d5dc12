package infer

import "testing"

// TestTwoTypesInBody has names of a let that stand for several types in its body.
func TestTwoTypesInBody(t *testing.T) {
	checkExprs(t, map[string]string{
		"(let ((i (fn (x) x))) (P (i 1) (i True)))":                                     "(P Int Bool)",
		"(let ((i (fn (x) x))) (i i))":                                                  "(-> t0 t0)",
		"(let ((i (fn (x) x))) (i i (i i) i 1))":                                        "Int",
		"(let ((n Nil)) (P (Cons 1 n) (Cons True n)))":                                  "(P (List Int) (List Bool))",
		"(let ((k (fn (x y) x))) (P (k 1 True) (k True 1)))":                            "(P Int Bool)",
		"(let ((a (fn (x) x)) (b (fn (x) (L x)))) (P (P (a 1) (a U)) (P (b 1) (b U))))": "(P (P Int U) (P (L Int) (L U)))",
		"(let ((i (fn (x) x))) (let ((j (i i))) (P (j 1) (j True))))":                   "(P Int Bool)",
		"(let ((i (let ((j (fn (x) x))) j))) (P (i 1) (i True)))":                       "(P Int Bool)",
		"(let ((x x)) (P (+ x 1) (re x)))":                                              "(P Int Int)",
		"(let ((f (fn (x) (f x)))) (P (f 1 2) (+ 1 (f True))))":                         "(P t0 Int)",
		"(let ((p (fn (x) (P x x)))) (p (p True)))":                                     "(P (P Bool Bool) (P Bool Bool))",
		"(let ((f (fn (x) (+ x 1)))) (P (f 1) (f True)))":                               none,
		"(let ((n (Cons 1 Nil))) (Cons True n))":                                        none,
		"(let ((i (fn (x) x))) (+ (i 1) (i True)))":                                     none,
		"(fn (i) (P (i 1) (i True)))":                                                   none,
	})
}

// TestOneTypeInExpressions: in the expressions of its let each name has one type, though it stands for any in the body.
func TestOneTypeInExpressions(t *testing.T) {
	checkExprs(t, map[string]string{
		"(let ((i (fn (x) x)) (a (P (i 1) (i True)))) a)":                  none,
		"(let ((a (P (i 1) (i True))) (i (fn (x) x))) a)":                  none,
		"(let ((i (fn (x) x)) (a (i 1))) i)":                               "(-> Int Int)",
		"(let ((a (i 1)) (i (fn (x) x))) i)":                               "(-> Int Int)",
		"(let ((i (fn (x) x)) (a (i 1))) (i True))":                        none,
		"(let ((i (fn (x) x)) (a (i 1)) (b (i True))) 1)":                  none,
		"(let ((i (fn (x) x)) (a 1)) (P (i a) (i True)))":                  "(P Int Bool)",
		"(let ((f (fn (x) (case 1 (1 x) (_ (f x)))))) (P (f 1) (f True)))": "(P Int Bool)",
		"(let ((f (fn (x) (P (f 1) (f True))))) f)":                        none,
		"(let ((f (fn (x) (case 1 (1 1) (_ (f True)))))) f)":               "(-> Bool Int)",
		"(let ((f (fn (x) (case 1 (1 1) (_ (f (L x))))))) f)":              none,
		"(let ((f (fn (x) (g x))) (g (fn (y) (f y)))) (P (f 1 2) (g U)))":  "(P t0 t1)",
		"(let ((f (fn (x) (g x))) (g (fn (y) (+ y 1)))) f)":                "(-> Int Int)",
		"(let ((f f)) f)":                                                 "t0",
		"(let ((f (f 1))) f)":                                             none,
		"(let ((f (fn (x) f))) f)":                                        none,
		"(let ((x (Cons 1 x))) x)":                                        "(List Int)",
		"(let ((x (Cons x x))) x)":                                        none,
		"(let ((a (Cons 1 b)) (b (Cons 2 a))) b)":                         "(List Int)",
		"(let ((a (Cons 1 b)) (b (Cons U a))) 1)":                         none,
		"(let ((x (+ 1 True))) 1)":                                        none,
		"(let ((x 1)) (+ 1 True))":                                        none,
		"(let ((a b) (b c) (c d) (d e) (e f) (f g) (g h) (h 1)) a)":       "Int",
		"(let ((a b) (b c) (c d) (d e) (e f) (f g) (g h) (h a)) (P a h))": "(P t0 t1)",
	})
}

// TestNamesAround: variables in the types of names that hold outside of a let don't stand for any type in it.
func TestNamesAround(t *testing.T) {
	checkExprs(t, map[string]string{
		"(fn (x) (let ((y x)) (P (+ y 1) (re y))))":                                                    none,
		"(fn (x) (let ((y x)) (P y y)))":                                                               "(-> t0 (P t0 t0))",
		"(fn (x) (let ((y x)) (P (+ y 1) x)))":                                                         "(-> Int (P Int Int))",
		"(fn (x) (let ((f (fn (z) x))) (P (f 1) (f True))))":                                           "(-> t0 (P t0 t0))",
		"(fn (x) (let ((f (fn (z) x))) (P (+ (f 1) 1) (re (f True)))))":                                none,
		"(fn (x) (let ((f (fn (z) (P x z)))) (P (f 1) (f True))))":                                     "(-> t0 (P (P t0 Int) (P t0 Bool)))",
		"(fn (f) (let ((g (fn (x) (f x)))) (P (g 1) (g True))))":                                       none,
		"(fn (f) (let ((g (fn (x) (f x)))) (P (g 1) (g 2))))":                                          "(-> (-> Int t0) (P t0 t0))",
		"(fn (x) (case x ((P y z) (let ((u y)) (P (+ u 1) (re u))))))":                                 none,
		"(fn (x) (case x ((P y z) (let ((u y)) (P u x)))))":                                            "(-> (P t0 t1) (P t0 (P t0 t1)))",
		"(fn (x) (case x (y (let ((u y)) (P (+ u 1) (+ x 1))))))":                                      "(-> Int (P Int Int))",
		"(fn (x) (case x (y (let ((u y)) (P (+ u 1) (re x))))))":                                       none,
		"(fn (x) (case x ((L y) (let ((u (L y))) (Same u x)))))":                                       "(-> (L t0) (Same (L t0)))",
		"(fn (x) (let ((y (let ((z x)) z))) (P (+ y 1) (re y))))":                                      none,
		"(fn (x) (let ((y (let ((z (fn (w) x))) z))) (P (y 1) (y U))))":                                "(-> t0 (P t0 t0))",
		"(fn (x) (let ((y (let ((z (fn (w) x))) z))) (P (re (y 1)) (+ 1 (y U)))))":                     none,
		"(let ((a (let ((b a)) (P (+ b 1) (re b))))) a)":                                               none,
		"(let ((a (fn (x) (let ((b a)) (P (b 1) (b U)))))) a)":                                         none,
		"(let ((a (fn (x) (let ((b a)) (case x (1 1) (_ (b 2))))))) a)":                                "(-> Int Int)",
		"(fn (x) (fn (x) (let ((y x)) (P (+ y 1) (re y)))))":                                           none,
		"(fn (x) (fn (x) (let ((x (fn (x) x))) (P (x 1) (x True)))))":                                  "(-> t0 (-> t1 (P Int Bool)))",
		"(fn (x) (P (let ((x True)) x) (re x)))":                                                       "(-> Cpx (P Bool Int))",
		"(fn (x) (P (case True (x x)) (re x)))":                                                        "(-> Cpx (P Bool Int))",
		"(fn (x) (P (fn (x) (+ x 1)) (re x)))":                                                         "(-> Cpx (P (-> Int Int) Int))",
		"(fn (x) (let ((y (let ((x True)) x)) (z (case 1 (x x))) (u (fn (x) x))) (P (P y z) (re x))))": "(-> Cpx (P (P Bool Int) Int))",
		"(fn (x) (let ((x (fn (y) (P x y)))) x))":                                                      none,
		"(fn (x) (let ((y (fn (z) (P x z)))) (fn (x) (P (y 1) (y x)))))":                               "(-> t0 (-> t1 (P (P t0 Int) (P t0 t1))))",
		"(fn (x) (let ((y (P x (fn (z) z)))) (case y ((P a b) (b a)))))":                               "(-> t0 t0)",
	})
}

// TestToldInLet has names whose types come to have, or lose, variables of a let while that is gone through.
func TestToldInLet(t *testing.T) {
	checkExprs(t, map[string]string{
		"(fn (x) (let ((f (fn (y) (case 1 (1 x) (_ y))))) (P (f 1) (f True))))":                 none,
		"(fn (x) (let ((f (fn (y) (case 1 (1 x) (_ (L y)))))) (P (f 1) (f True))))":             none,
		"(fn (x) (let ((f (fn (y) (case 1 (1 x) (_ (L y)))))) (P (f 1) x)))":                    "(-> (L Int) (P (L Int) (L Int)))",
		"(fn (x) (let ((f (fn (y) (case x ((P a b) (case 1 (1 a) (_ y))))))) (P (f 1) (f U))))": none,
		"(fn (x) (let ((f (fn (y) (case x ((P a b) b))))) (P (f 1) (f U))))":                    "(-> (P t0 t1) (P t1 t1))",
		"(fn (x z) (let ((f (fn (y) (Same x (P y z))))) (P (f 1) (f U))))":                      none,
		"(fn (x z) (let ((f (fn (y) (Same x z)))) (P (f 1) (f U))))":                            "(-> t0 (-> t0 (P (Same t0) (Same t0))))",
		"(fn (x) (P (let ((f (fn (y) x))) (P (f 1) (f U))) (+ x 1)))":                           "(-> Int (P (P Int Int) Int))",
		"(fn (x) (P (+ x 1) (let ((f (fn (y) x))) (P (f 1) (re (f U))))))":                      none,
		"(fn (x) (P (let ((f (fn (y) x))) (+ (f 1) 1)) (re x)))":                                none,
		"(fn (g) (let ((f (fn (y) (g (fn (z) y))))) (P (f 1) (f 2))))":                          "(-> (-> (-> t0 Int) t1) (P t1 t1))",
		"(fn (g) (let ((f (fn (y) (g (fn (z) y))))) (P (f 1) (f U))))":                          none,
		"(fn (g) (let ((f (fn (y) (g (fn (z) z))))) (P (f 1) (f U))))":                          "(-> (-> (-> t0 t0) t1) (P t1 t1))",
		"(fn (g) (let ((f (fn (y) (g (fn (z) z)))) (h (g (fn (z) (+ z 1))))) (P (f 1) (f U))))": "(-> (-> (-> Int Int) t0) (P t0 t0))",
	})
}

// TestUsedBelow has lets in lets, whose names use those around.
func TestUsedBelow(t *testing.T) {
	checkExprs(t, map[string]string{
		"(let ((p (fn (x) (P x x)))) (let ((q (fn (x) (p (p x))))) (P (q 1) (q U))))":                                         "(P (P (P Int Int) (P Int Int)) (P (P U U) (P U U)))",
		"(let ((c (fn (f g x) (f (g x))))) (c (fn (x) (+ x 1)) (c (fn (x) (re x)) (fn (x) (cpx x 1)))))":                      "(-> Int Int)",
		"(let ((m (fn (f l) (case l (Nil Nil) ((Cons x r) (Cons (f x) (m f r))))))) (P (m (fn (x) (+ x 1))) (m (fn (x) U))))": "(P (-> (List Int) (List Int)) (-> (List t0) (List U)))",
		"(let ((n (fn (t) (case t (Leaf 0) ((Node l x r) (+ (n l) (n r))))))) (P (n (Node Leaf U Leaf)) (n Leaf)))":           "(P Int Int)",
		"(let ((n (fn (t) (case t (End 0) ((Nest x r) (+ 1 (n r))))))) n)":                                                    none,
		"(fn (x) (let ((a (L x))) (let ((b (L a))) (let ((c (L b))) (P a (P b c))))))":                                        "(-> t0 (P (L t0) (P (L (L t0)) (L (L (L t0))))))",
	})
}
