package flat_test

import (
	"testing"

	"reverie/made"
)

// TestNamesThatHide has names of patterns that hide others, in the body, and not behind the patterns that didn't fit.
func TestNamesThatHide(t *testing.T) {
	checkMains(t, [][2]string{
		{"(let ((x 5)) (case 1 (x x)))", "1"}, {"(let ((x 5)) (+ x (case 1 (x x))))", "6"}, {"(let ((x 5)) (+ (case 1 (x x)) x))", "6"}, {"(let ((x 5)) (case (P 1 2) ((P x 3) x) (_ x)))", "5"}, {"(let ((x 5)) (case (P 1 2) ((P x 3) x) ((P _ y) (+ x y))))", "7"}, {"(let ((x 5)) (case (P 1 2) ((P x 3) x) ((P y x) (+ (* 10 x) y))))", "21"},
		{"(let ((x 5)) (case (P 1 (P 2 3)) ((P x (P 2 4)) x) ((P 1 (P x 4)) x) (_ x)))", "5"}, {"(let ((x 5)) (case (P 1 (P 2 3)) ((P x (P 2 4)) x) ((P 1 (P x 4)) x) ((P y (P z _)) (+ (* 100 x) (+ (* 10 y) z)))))", "512"}, {"(let ((x 5) (y 6)) (case (P (P 1 2) 3) ((P (P x y) 4) 0) ((P (P _ 2) y) (- x y))))", "2"},
		{"(let ((a 1) (b 2)) (case (P b a) ((P a b) (P a b))))", "(P 2 1)"}, {"(let ((a 1) (b 2)) (case (P b a) ((P a 3) (P a b)) ((P b 4) (P a b)) ((P b a) (P a b))))", "(P 1 2)"}, {"(case 1 (x (case 2 (x (case 3 (x x))))))", "3"}, {"(case 1 (x (+ x (case 2 (x (+ x (case 3 (x x))))))))", "6"}, {"(case (P 1 2) ((P x y) (case (P y x) ((P x y) (P x y)))))", "(P 2 1)"},
		{"(case 1 (x ((fn (x) x) 2)))", "2"}, {"(case 1 (x (+ x ((fn (x) x) 2))))", "3"}, {"(case 1 (x (let ((x 2)) x)))", "2"}, {"(case 1 (x (let ((x 2) (y x)) (+ x y))))", "4"}, {"((fn (x) (case 2 (x x))) 1)", "2"}, {"((fn (x) (+ x (case 2 (x x)))) 1)", "3"}, {"((fn (x y) (case (P y x) ((P x y) (P x y)))) 1 2)", "(P 2 1)"},
	})
}

// TestWhatIsLookedAtHidden has patterns with the name of what is looked at, or with names that are used in it.
func TestWhatIsLookedAtHidden(t *testing.T) {
	checkMains(t, [][2]string{
		{"(let ((x 5)) (case x (x x)))", "5"}, {"(let ((x 5)) (case x (1 2) (x (+ x 1))))", "6"}, {"(let ((x 5)) (case (+ x 1) (x (* x 2))))", "12"}, {"(let ((x 5)) (case (+ x 1) (7 0) (x (* x 2))))", "12"}, {"(let ((x 5)) (case (Box x) ((Box x) (+ x 1))))", "6"}, {"(let ((x 5)) (case (P x (+ x 1)) ((P y x) (P x y))))", "(P 6 5)"}, {"(let ((x 5)) (case (P x (+ x 1)) ((P x 7) x) ((P _ x) x)))", "6"},
		{"(let ((x (P 1 2))) (case x ((P x 3) x) ((P y z) (+ y z))))", "3"}, {"(let ((x (P 1 2))) (case x ((P x 3) x) ((P 2 x) x) (x (snd x))))", "2"}, {"(let ((x (P 1 (P 2 3)))) (case x ((P x (P 2 4)) x) ((P x (P y 3)) (+ x y)) (_ 9)))", "3"}, {"(let ((x (P (P 1 2) 3))) (case x ((P (P x 2) 4) x) ((P x 3) (fst x))))", "1"}, {"(let ((l (Cons 1 (Cons 2 Nil)))) (case l ((Cons l Nil) l) ((Cons _ l) (sum l))))", "2"},
		{"(let ((x 5)) (case x (y (+ x y))))", "10"}, {"(let ((x 5)) (case x (y (let ((x 1)) (+ x y)))))", "6"}, {"(let ((x 5)) (case x (y ((fn (x) (+ x (* 10 y))) 1))))", "51"}, {"(let ((x 5)) (case x (y (case 1 (x (+ x (* 10 y)))))))", "51"}, {"(let ((x 5)) (case x (y (case (P 1 2) ((P x 2) (- x y)) (_ y)))))", "-4"}, {"(let ((x 5)) (case x (y (case (P 1 2) ((P x 3) (- x y)) ((P _ x) (- y x))))))", "3"}, {"(let ((x 5)) (case x (y (let ((x y)) x))))", "5"}, {"(let ((x 5) (f (fn (y) (case y (x (+ x 1)))))) (f x))", "6"},
		{"(let ((x 5)) (case x (1 0) (y (case y (2 0) (x (+ x y))))))", "10"}, {"(let ((x 5)) (case x (y (case y (z (case z (x (+ x (+ y z)))))))))", "15"}, {"(let ((x (case 3 (x x)))) x)", "3"}, {"(let ((x (case x (x 3)))) x)", "3"}, {"(let ((x (case x (x x)))) x)", loop}, {"(let ((x (case y (x x))) (y (case 4 (y y)))) x)", "4"}, {"(let ((x 1)) (let ((y (case x (x (+ x 1))))) (case y (x (+ x y)))))", "4"},
	})
}

// TestNamesOfDefinitions has patterns with the names of definitions, of their parameters, and of the definition that they stand in.
func TestNamesOfDefinitions(t *testing.T) {
	for _, row := range [][3]string{
		{"(def f (x) (case x (f (+ f 1))))", "(f 1)", "2"}, {"(def f (x) (case (P x 2) ((P f 3) f) ((P 1 f) (+ f x))))", "(f 1)", "3"}, {"(def f (n) (case n (0 0) (m (case m (n (+ n (f (- n 1))))))))", "(f 4)", "10"}, {"(def f (x) (case x ((Cons f Nil) f) ((Cons _ xs) (f xs)) (Nil 0)))", "(f (Cons 1 (Cons 2 Nil)))", "2"}, {"(def f (x y) (case (P y x) ((P x y) (P x y))))", "(f 1 2)", "(P 2 1)"}, {"(def f (x y) (case y (x (P x y))))", "(f 1 2)", "(P 2 2)"},
		{"(def f (x y) (case y (x (case x (y (P x y))))))", "(f 1 2)", "(P 2 2)"}, {"(def f (x y) (case x (x (case y (y (P x y))))))", "(f 1 2)", "(P 1 2)"}, {"(def g (x) (+ x 1)) (def f (x) (case x (g (case g (x (P x g))))))", "(f 1)", "(P 1 1)"}, {"(def g (x) (+ x 1)) (def f (x) (case (P x x) ((P g 2) g) ((P y _) (g y))))", "(f 1)", "2"}, {"(def g () 7) (def f (x) (case g (g (+ g x))))", "(f 1)", "8"}, {"(def g () 7) (def f (x) (case g (6 0) (x (+ g x))))", "(f 1)", "14"},
		{"(def g () 7) (def f (x) (case x (g (case 1 (2 g) (_ (+ g g))))))", "(f 1)", "2"}, {"(def g () (P 1 2))", "(case g ((P g 3) g) ((P x g) (+ x g)))", "3"}, {"(def g () (P 1 2))", "(case g ((P 2 _) 0) ((P x y) (+ x (snd g))))", "3"}, {"(def g () 5)", "(case 1 (main (+ main g)))", "6"}, {"", "(case main (main 1))", "1"}, {"", "(case main (main main))", loop}, {"", "(case main (x 1))", "1"}, {"", "(case 1 (id (case 2 (k (P id k)))))", "(P 1 2)"}, {"", "(case id (k (k 3)))", "3"}, {"", "(case k (id (id 3 4)))", "3"},
	} {
		checkText(t, made.WithMain(row[0], row[1]), row[2])
	}
}

// TestNamesUsedAndNot has patterns whose names the body uses all, some, more than once, or not at all.
func TestNamesUsedAndNot(t *testing.T) {
	checkMains(t, [][2]string{
		{"(case (E 1 2 3 4 5 6 7 8) ((E a b c d e f g h) 0))", "0"}, {"(case (E 1 2 3 4 5 6 7 8) ((E a b c d e f g h) (+ a h)))", "9"}, {"(case (E 1 2 3 4 5 6 7 8) ((E a b c d e f g h) (E h h a a d d d d)))", "(E 8 8 1 1 4 4 4 4)"}, {"(case 1 (x (P x (P x x))))", "(P 1 (P 1 1))"}, {"(case (+ 1 1) (x (P x (P x x))))", "(P 2 (P 2 2))"}, {"(case 1 (x 2))", "2"}, {"(case (P 1 (P 2 3)) ((P x (P y z)) y))", "2"}, {"(case (P 1 2) ((P x 3) x) ((P x y) 4))", "4"},
		{"(case (P 1 2) ((P a a') (P a' a)))", "(P 2 1)"}, {"(case (P 1 2) ((P m m1) (P m1 m)))", "(P 2 1)"}, {"(case (P 1 2) ((P mM1 m1') (P m1' mM1)))", "(P 2 1)"}, {"(case (P 1 (Box 2)) ((P m1 (Box 3)) m1) ((P m (Box m2)) (+ m m2)))", "3"}, {"(case (P (fn (x) (+ x 1)) 2) ((P f x) (f (f x))))", "4"}, {"(case (cpx 1 2) (c (cmul c c)))", "(cpx -3 4)"},
	})
}

// TestNewNamesInEachOther has cases in each other, each of which needs new names, while those of the others are still used.
func TestNewNamesInEachOther(t *testing.T) {
	checkMains(t, [][2]string{
		{"(case (+ 1 2) (x (case (+ 3 4) (y (- x y)))))", "-4"}, {"(case (+ 1 2) (x (case (+ 3 4) (y (case (+ x y) (z (E x y z 0 0 0 0 0)))))))", "(E 3 7 10 0 0 0 0 0)"}, {"(case (case (+ 1 2) (x (+ x 1))) (y (+ y 1)))", "5"}, {"(case (case (case (+ 1 2) (4 0) (x (+ x 1))) (5 0) (y (+ y 1))) (6 0) (z (+ z 1)))", "6"}, {"(+ (case (+ 1 2) (x (+ x 1))) (case (+ 3 4) (x (+ x 1))))", "12"},
		{"(case (P 1 (P 2 3)) ((P 1 (P 2 4)) 0) ((P x (P 2 y)) (case (P x (P y 5)) ((P 1 (P 3 6)) 0) ((P z (P _ w)) (+ (* 1000 x) (+ (* 100 y) (+ (* 10 z) w)))))))", "1315"}, {"(case (P 1 (P 2 3)) ((P 1 (P 2 4)) 0) (p (case (P p (P 2 3)) ((P (P 1 (P 2 5)) _) 0) (q (fst (snd (fst q)))))))", "2"},
		{"(case (P 1 (P (case (P 5 (P 6 7)) ((P 5 (P 6 8)) 0) ((P _ (P x _)) x)) 3)) ((P 1 (P 5 3)) 0) ((P _ (P 6 4)) 1) ((P x (P y z)) (+ (* 100 x) (+ (* 10 y) z))))", "163"}, {"(case (Box (Box 1)) ((Box (Box 2)) 0) ((Box b) (case (Box b) ((Box (Box 3)) 0) ((Box (Box x)) (case (Box (Box x)) ((Box (Box 4)) 0) ((Box (Box y)) (+ x y)))))))", "2"},
		{"(case (P 1 (P 2 3)) ((P 1 (P 2 4)) 0) ((P 1 (P 3 3)) 1) ((P 2 (P 2 3)) 2) (_ (case (P 4 (P 5 6)) ((P 4 (P 5 7)) 3) ((P 4 (P 6 6)) 4) ((P x (P y z)) (+ (* 100 x) (+ (* 10 y) z))))))", "456"}, {"(let ((f (fn (p) (case p ((P 1 (P 2 x)) (f (P 2 (P x 7)))) ((P 2 (P 3 x)) x) (_ 0))))) (P (f (P 1 (P 2 3))) (f (P 1 (P 2 4)))))", "(P 7 0)"}, {"(let ((f (fn (x) (case (+ x 1) (y (case (+ y 1) (z (fn (w) (E x y z w 0 0 0 0)))))))) (g (f 10))) (f 1 (case (g 5) ((E a b c d _ _ _ _) (+ a (+ b (+ c d)))))))", "(E 1 2 3 38 0 0 0 0)"},
	})
}
