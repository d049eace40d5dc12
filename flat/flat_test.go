package flat_test

import (
	"testing"

	"reverie/made"
)

// TestKinds has patterns of each kind alone, and in each other.
func TestKinds(t *testing.T) {
	checkMains(t, [][2]string{
		{"(case 1 (_ 2))", "2"}, {"(case 1 (x x))", "1"}, {"(case 1 (x 2))", "2"}, {"(case 1 (1 2))", "2"}, {"(case -1 (1 2) (-1 3))", "3"}, {"(case 999999999999999999 (99999999999999999 1) (999999999999999999 2))", "2"}, {"(case 0 (-0 7))", "7"},
		{"(case True (True 1))", "1"}, {"(case False (True 1) (False 2))", "2"}, {"(case Nil (Nil 1))", "1"}, {"(case (Cons 1 Nil) (Nil 1) (_ 2))", "2"}, {"(case Z (Z 1) ((S n) 2))", "1"}, {"(case (S Z) (Z 1) ((S n) 2))", "2"},
		{"(case (Box 1) ((Box x) x))", "1"}, {"(case (Box 1) ((Box _) 2))", "2"}, {"(case (Box 1) ((Box 1) 2))", "2"}, {"(case (Box 1) ((Box 2) 3) ((Box x) x))", "1"}, {"(case (Just 1) (No 2) ((Just x) x))", "1"}, {"(case No ((Just x) x) (No 2))", "2"},
		{"(case (P 1 2) ((P x y) (- x y)))", "-1"}, {"(case (P 1 2) ((P _ y) y))", "2"}, {"(case (P 1 2) ((P x _) x))", "1"}, {"(case (P 1 2) ((P _ _) 3))", "3"}, {"(case (P 1 2) ((P 1 y) y))", "2"}, {"(case (P 1 2) ((P x 2) x))", "1"}, {"(case (P 1 2) ((P 1 2) 3))", "3"},
		{"(case (E 1 2 3 4 5 6 7 8) ((E a b c d e f g h) (E h g f e d c b a)))", "(E 8 7 6 5 4 3 2 1)"}, {"(case (E 1 2 3 4 5 6 7 8) ((E 1 _ 3 d 5 _ 7 h) (P d h)))", "(P 4 8)"}, {"(case (E 1 2 3 4 5 6 7 8) ((E 1 2 3 4 5 6 7 8) 9))", "9"},
		{"(case (Box (Box 1)) ((Box (Box x)) x))", "1"}, {"(case (Box (Box 1)) ((Box (Box 1)) 2))", "2"}, {"(case (Just (Just 1)) (No 1) ((Just No) 2) ((Just (Just x)) (+ x 2)))", "3"}, {"(case (Just No) (No 1) ((Just (Just x)) x) ((Just No) 2))", "2"},
		{"(case (P (P 1 2) (P 3 4)) ((P (P a b) (P c d)) (E a b c d 0 0 0 0)))", "(E 1 2 3 4 0 0 0 0)"}, {"(case (P (P 1 2) (P 3 4)) ((P (P 1 2) (P 3 4)) 5))", "5"}, {"(case (P True (P False True)) ((P False _) 1) ((P _ (P True _)) 2) ((P _ (P _ False)) 3) ((P True (P False True)) 4))", "4"},
		{"(case (Cons 1 (Cons 2 (Cons 3 Nil))) ((Cons a (Cons b (Cons c Nil))) (E a b c 0 0 0 0 0)))", "(E 1 2 3 0 0 0 0 0)"}, {"(case (Cons 1 (Cons 2 Nil)) (Nil 0) ((Cons _ Nil) 1) ((Cons _ (Cons _ (Cons _ _))) 3) ((Cons _ (Cons _ Nil)) 2))", "2"},
		{"(case (cpx 1 2) (c (im c)))", "2"}, {"(case (cpx 1 2) (_ 3))", "3"}, {"(case (fn (x) x) (f (f 3)))", "3"}, {"(case (Box id) ((Box f) (f 3)))", "3"}, {"(case (P id 1) ((P f 2) 0) ((P f x) (f x)))", "1"}, {"(case (P (cpx 1 2) 3) ((P c 2) (re c)) ((P c 3) (im c)))", "2"},
	})
}

// TestWhereItFails has patterns that fail at each of their parts.
func TestWhereItFails(t *testing.T) {
	checkMains(t, [][2]string{
		{"(case (P 1 2) ((P 2 2) 0) (_ 1))", "1"}, {"(case (P 1 2) ((P 1 1) 0) (_ 1))", "1"}, {"(case (P 1 2) ((P 2 x) x) ((P x 1) x) ((P x y) (+ x y)))", "3"}, {"(case (P (P 1 2) 3) ((P (P 1 3) 3) 0) ((P (P 2 2) 3) 1) ((P (P 1 2) 4) 2) ((P (P 1 2) 3) 3))", "3"},
		{"(case (P 3 (P 1 2)) ((P 3 (P 1 3)) 0) ((P 3 (P 2 2)) 1) ((P 4 (P 1 2)) 2) ((P 3 (P 1 2)) 3))", "3"}, {"(case (P (Just 1) (Just 2)) ((P No _) 0) ((P _ No) 1) ((P (Just 2) _) 2) ((P _ (Just 1)) 3) ((P (Just x) (Just y)) (* 10 (+ x y))))", "30"},
		{"(case (E 1 2 3 4 5 6 7 8) ((E 1 2 3 4 5 6 7 9) 1) ((E 0 2 3 4 5 6 7 8) 2) ((E 1 2 3 0 5 6 7 8) 3) ((E 1 2 3 4 5 6 7 8) 4) (_ 5))", "4"}, {"(case (Box (Box (Box 1))) ((Box (Box (Box 2))) 1) ((Box (Box x)) (case x ((Box 1) 2))))", "2"},
		{"(case (Cons 1 (Cons 2 Nil)) ((Cons 1 (Cons 2 (Cons 3 Nil))) 1) ((Cons 1 (Cons 3 Nil)) 2) ((Cons 2 (Cons 2 Nil)) 3) ((Cons 1 Nil) 4) (Nil 5) ((Cons x xs) (sum xs)))", "2"},
		{"(case (P (Box 1) (P (Box 2) (Box 3))) ((P (Box 1) (P (Box 2) (Box 4))) 1) ((P (Box 1) (P (Box 3) _)) 2) ((P (Box 2) _) 3) ((P (Box 1) (P _ (Box x))) x))", "3"},
	})
}

// TestHowMany has cases with one pattern, with two, and with many, with some behind one that fits always, and with none that fits.
func TestHowMany(t *testing.T) {
	numbers, boxes := made.Numbered(16, "(# 1#) "), made.Numbered(16, "((Box #) 1#) ")
	checkMains(t, [][2]string{
		{"(case 0 " + numbers + ")", "10"}, {"(case 9 " + numbers + ")", "19"}, {"(case 15 " + numbers + ")", "115"}, {"(case 16 " + numbers + ")", noMatch}, {"(case (Box 0) " + boxes + ")", "10"}, {"(case (Box 15) " + boxes + ")", "115"}, {"(case (Box 16) " + boxes + ")", noMatch},
		{"(case 1 (_ 10) (1 20))", "10"}, {"(case 1 (x 10) (1 20))", "10"}, {"(case 1 (x 10) (y 20) (_ 30))", "10"}, {"(case 1 (2 5) (_ 10) (1 20) (x 30))", "10"}, {"(case 1 (2 5) (x (+ x 9)) (1 20) (_ 30))", "10"}, {"(case (P 1 2) ((P x y) 10) ((P 1 2) 20) (_ 30))", "10"}, {"(case (P 1 2) ((P x 3) 5) (p (fst p)) ((P 1 2) 20))", "1"},
		{"(case 1 (1 10) (1 20))", "10"}, {"(case (P 1 2) ((P 1 _) 10) ((P _ 2) 20) ((P 1 2) 30))", "10"}, {"(case (P 0 2) ((P 1 _) 10) ((P _ 2) 20) ((P 0 2) 30))", "20"}, {"(case True (x 10) (True 20) (False 30))", "10"}, {"(case (Just 1) ((Just 2) 10) ((Just x) 20) ((Just 1) 30) (_ 40))", "20"},
		{"(case 1 (2 3))", noMatch}, {"(case 1 (2 3) (3 4) (-1 5))", noMatch}, {"(case True (False 1))", noMatch}, {"(case Nil ((Cons x xs) x))", noMatch}, {"(case (P 1 2) ((P 1 3) 1))", noMatch}, {"(case (P 1 2) ((P 2 2) 1))", noMatch}, {"(case (P 1 2) ((P 1 3) 1) ((P 2 2) 2))", noMatch}, {"(case (Box (Box 1)) ((Box (Box 2)) 1))", noMatch},
		{"(case (E 1 2 3 4 5 6 7 8) ((E 1 2 3 4 5 6 7 9) 1) ((E 9 2 3 4 5 6 7 8) 1))", noMatch}, {"(case (Just No) ((Just (Just x)) 1) (No 2))", noMatch}, {"(case 1 (1 (case 2 (1 2))) (_ 5))", noMatch}, {"(case (P 1 (case 2 (1 2))) ((P 1 2) 1) (_ 3))", noMatch},
	})
}

// TestFails: FailE stands where no pattern fits.
func TestFails(t *testing.T) {
	for _, s := range []string{
		"(case 1 (1 2))", "(case 1 (2 3))", "(case 1 (2 3) (3 4))", "(case True (True 1) (False 2))", "(case (Box 1) ((Box x) x))", "(case (Box 1) ((Box 1) x))", "(case (P 1 2) ((P 1 2) 3))", "(case (P 1 2) ((P 2 _) 3) ((P _ 3) 4))", "(case x (1 2))", "(case x (2 3))", "(+ 1 (case x (1 2)))", "(case x (1 (case x (1 2))) (_ 3))", "(case (case x (1 2)) (y y))",
	} {
		p := parsed(t, made.WithMain("(def x () 1)", s))
		q := checkFlat(t, p)
		if got := fails(q.Defs[len(q.Defs)-1].Body); got == 0 {
			t.Errorf("%s: no FailE", s)
		}
		check(t, p, most)
	}
}

// TestNoCases has parts of all kinds without patterns.
func TestNoCases(t *testing.T) {
	checkMains(t, [][2]string{
		{"1", "1"}, {"True", "True"}, {"Nil", "Nil"}, {"(P 1 2)", "(P 1 2)"}, {"(cpx 1 2)", "(cpx 1 2)"}, {"(+ 1 (* 2 3))", "7"}, {"((fn (x y) (- x y)) 1 2)", "-1"}, {"(let ((x 1) (y x)) (+ x y))", "2"}, {"(let ((x x)) x)", loop}, {"(/ 1 0)", noDiv}, {"(id (id 1))", "1"}, {"((k id 1) 2)", "2"},
		{"(let ((f (fn (x) (fn (y) (+ x y))))) (f 1 2))", "3"}, {"(E 1 2 3 4 5 6 7 8)", "(E 1 2 3 4 5 6 7 8)"}, {"(re (cmul (cpx 1 2) (cpx 3 4)))", "-5"}, {"(let ((l (Cons 1 l))) l)", long}, {"(let ((a b) (b c) (c 3)) (P a b))", "(P 3 3)"},
	})
	checkText(t, "(def main () 1)", "1")
}

// TestExample is the document's: x has a name; if that fits (Just a), and a fits 1: 5; else 6.
func TestExample(t *testing.T) {
	const s = "(def f (x) (case x ((Just 1) 5) (_ 6)))"
	for _, row := range [][2]string{{"(Just 1)", "5"}, {"(Just 2)", "6"}, {"No", "6"}, {"(Just (/ 1 0))", noDiv}, {"(case 1 (2 No))", noMatch}, {"(let ((x x)) x)", loop}} {
		checkText(t, made.WithMain(s, "(f "+row[0]+")"), row[1])
		checkText(t, made.WithMain("", "(case "+row[0]+" ((Just 1) 5) (_ 6))"), row[1])
	}
}
