package sense_test

import "testing"

func TestCases(t *testing.T) {
	checkMains(t, [][2]string{
		{"(case 1 (1 2))", "2"}, {"(case 1 (_ 2))", "2"}, {"(case 1 (x x))", "1"}, {"(case True (True 1))", "1"}, {"(case (Box 1) ((Box 1) 2))", "2"}, {"(case (Box 1) ((Box x) x))", "1"}, {"(case (Box 1) ((Box _) 2))", "2"},
		{"(case -5 (5 1) (-5 2) (_ 3))", "2"}, {"(case 999999999999999999 (999999999999999998 1) (-999999999999999999 2) (999999999999999999 3))", "3"}, {"(case 4294967297 (1 1) (4294967297 2))", "2"}, {"(case 0 (-0 1) (_ 2))", "1"},
		{"(case True (False 1) (True 2))", "2"}, {"(case False (False 1) (True 2))", "1"}, {"(case Nil ((Cons x xs) 1) (Nil 2))", "2"}, {"(case (Cons 1 Nil) (Nil 2) ((Cons x xs) x))", "1"},
		{"(case (P 1 2) ((P a b) (- a b)))", "-1"}, {"(case (P (P 1 2) (Box 3)) ((P (P a b) (Box c)) (E a b c 0 0 0 0 0)))", "(E 1 2 3 0 0 0 0 0)"}, {"(case (E 1 2 3 4 5 6 7 8) ((E a b c d e f g h) (E h g f e d c b a)))", "(E 8 7 6 5 4 3 2 1)"},
		{"(case (E 1 2 3 4 5 6 7 8) ((E 1 2 3 4 5 6 7 9) 1) ((E 0 2 3 4 5 6 7 8) 2) ((E 1 2 3 4 5 6 7 8) 3) (_ 4))", "3"}, {"(case (Just (Just 1)) (No 1) ((Just No) 2) ((Just (Just 2)) 3) ((Just (Just x)) x))", "1"}, {"(case (Just No) (No 1) ((Just No) 2) ((Just (Just x)) x))", "2"},
		{"(case (cpx 1 2) (c (re c)))", "1"}, {"(case (fn (x) x) (f (f 3)))", "3"}, {"(case id (f (P (f 3) (f 4))))", "(P 3 4)"}, {"(case (Box id) ((Box f) (f 3)))", "3"}, {"(case k (_ 3))", "3"},
		{"(case (case 1 (1 2)) (2 3))", "3"}, {"(case 1 (1 (case 2 (2 3))))", "3"}, {"(case (P 1 2) (p (P p p)))", "(P (P 1 2) (P 1 2))"}, {"(case (let ((x 1)) (P x x)) ((P 1 y) y))", "1"}, {"(+ (case 1 (1 2)) (case True (True 3)))", "5"},
		{"(case (Cons 1 (Cons 2 (Cons 3 Nil))) ((Cons a (Cons b (Cons c Nil))) (E a b c 0 0 0 0 0)))", "(E 1 2 3 0 0 0 0 0)"}, {"(case (Cons 1 (Cons 2 Nil)) ((Cons _ Nil) 1) ((Cons _ (Cons _ (Cons _ _))) 3) ((Cons _ (Cons _ Nil)) 2))", "2"},
	})
}

// TestFirstThatFits: the first pattern that fits counts, not a later one that would, too.
func TestFirstThatFits(t *testing.T) {
	checkMains(t, [][2]string{
		{"(case 1 (1 10) (1 20) (_ 30))", "10"}, {"(case 1 (2 10) (1 20) (1 30))", "20"}, {"(case 1 (_ 10) (1 20))", "10"}, {"(case 1 (x 10) (_ 20) (1 30))", "10"}, {"(case 1 (0 10) (_ 20) (1 30))", "20"},
		{"(case (P 1 2) ((P 1 _) 10) ((P _ 2) 20) ((P 1 2) 30))", "10"}, {"(case (P 0 2) ((P 1 _) 10) ((P _ 2) 20) ((P 0 2) 30))", "20"}, {"(case (P 1 2) ((P x y) 10) ((P 1 2) 20))", "10"}, {"(case True (x 10) (True 20))", "10"}, {"(case True (False 5) (x 10) (True 20))", "10"},
		{"(case (Just 1) (_ 10) ((Just 1) 20))", "10"}, {"(case (Just 1) ((Just _) 10) ((Just 1) 20))", "10"}, {"(case (Just 1) ((Just 2) 10) ((Just x) 20) ((Just 1) 30) (_ 40))", "20"},
		{"(case 16 (1 1) (2 2) (3 3) (4 4) (5 5) (6 6) (7 7) (8 8) (9 9) (10 10) (11 11) (12 12) (13 13) (14 14) (15 15) (16 160))", "160"}, {"(case 17 (1 1) (2 2) (3 3) (4 4) (5 5) (6 6) (7 7) (8 8) (9 9) (10 10) (11 11) (12 12) (13 13) (14 14) (15 15) (_ 170))", "170"},
	})
}

// TestNamesOfPatterns: what a pattern bound that didn't fit doesn't hold behind a later one.
func TestNamesOfPatterns(t *testing.T) {
	checkMains(t, [][2]string{
		{"(let ((x 5)) (case (P 1 2) ((P x 3) x) (_ x)))", "5"}, {"(let ((x 5)) (case (P 1 2) ((P x 3) x) ((P _ y) (+ x y))))", "7"}, {"(let ((x 5)) (case (P 1 2) ((P x 3) x) ((P y x) (+ (* 10 x) y))))", "21"},
		{"(let ((x 5) (y 6)) (case (P (P 1 2) 3) ((P (P x y) 4) 0) ((P (P _ 2) y) (- x y))))", "2"}, {"(let ((x 5)) (case 1 (2 x) (_ x)))", "5"}, {"(let ((x 5)) (+ (case 1 (x x)) x))", "6"},
		{"(let ((x 5)) (case (P 1 x) ((P x 4) 0) ((P 1 y) (+ x y))))", "10"}, {"(let ((a 1) (b 2)) (case (P b a) ((P a b) (P a b))))", "(P 2 1)"},
	})
}

// TestLookedFromLeft: fields have to fit from left to right, and what stands behind one that doesn't isn't looked at.
func TestLookedFromLeft(t *testing.T) {
	const bad, none = "(/ 1 0)", "(case 1 (2 3))"
	checkMains(t, [][2]string{
		{"(case (P 1 " + bad + ") ((P 2 3) 5) ((P 1 _) 6))", "6"}, {"(case (P 1 " + bad + ") ((P 2 x) x) ((P x _) x))", "1"}, {"(case (P 1 " + bad + ") ((P 1 3) 5) ((P 1 _) 6))", noDiv}, {"(case (P " + bad + " 1) ((P 1 2) 5) (_ 6))", noDiv}, {"(case (P " + bad + " 1) ((P _ 2) 5) (_ 6))", "6"},
		{"(case (P " + bad + " " + none + ") ((P 1 2) 5) (_ 6))", noDiv}, {"(case (P " + none + " " + bad + ") ((P 1 2) 5) (_ 6))", noMatch}, {"(case (P " + bad + " " + none + ") ((P _ 2) 5) (_ 6))", noMatch}, {"(case (P " + bad + " " + none + ") ((P x 2) x) (_ 6))", noMatch},
		{"(case (P (P 1 " + bad + ") " + none + ") ((P (P 1 2) 3) 5) (_ 6))", noDiv}, {"(case (P (P 1 " + bad + ") " + none + ") ((P (P 2 2) 3) 5) (_ 6))", "6"}, {"(case (P (P 1 " + bad + ") " + none + ") ((P (P 1 _) 3) 5) (_ 6))", noMatch}, {"(case (P (P " + none + " " + bad + ") 3) ((P _ 4) 5) ((P (P _ 1) 3) 6) (_ 7))", noDiv},
		{"(case (P (Just " + bad + ") No) ((P _ (Just _)) 1) ((P (Just _) No) 2))", "2"}, {"(case (P (Just " + bad + ") No) ((P No _) 1) ((P (Just 1) No) 2))", noDiv}, {"(case (P No " + bad + ") ((P (Just _) 1) 1) ((P No _) 2))", "2"},
		{"(case (E 1 2 3 " + bad + " 5 6 7 " + none + ") ((E 1 2 4 5 6 7 8 9) 1) ((E 1 2 3 _ _ _ 8 9) 2) ((E 1 2 3 _ 5 6 7 _) 3))", "3"}, {"(case (E 1 2 3 " + bad + " 5 6 7 " + none + ") ((E 1 2 3 4 5 6 7 8) 1) (_ 2))", noDiv}, {"(case (E 1 2 3 " + bad + " 5 6 7 " + none + ") ((E 1 2 3 _ 5 6 7 8) 1) (_ 2))", noMatch},
		{"(case (Cons 1 " + "(let ((x x)) x)" + ") ((Cons 2 Nil) 1) ((Cons 1 _) 2))", "2"}, {"(case (Cons 1 (Cons 2 (let ((x x)) x))) ((Cons 1 (Cons 3 Nil)) 1) ((Cons 1 (Cons 2 xs)) 2))", "2"}, {"(case (Cons 1 (Cons 2 (let ((x x)) x))) ((Cons 1 (Cons 2 Nil)) 1) (_ 2))", loop},
	})
}

// TestNoPatternFits has cases without a pattern that fits, behind all looks.
func TestNoPatternFits(t *testing.T) {
	checkMains(t, [][2]string{
		{"(case 1 (2 3))", noMatch}, {"(case 1 (2 3) (3 4) (0 5) (-1 6))", noMatch}, {"(case True (False 1))", noMatch}, {"(case Nil ((Cons x xs) x))", noMatch}, {"(case (P 1 2) ((P 1 3) 1) ((P 2 2) 2))", noMatch}, {"(case (Box (Box 1)) ((Box (Box 2)) 1))", noMatch},
		{"(+ 1 (case 1 (2 3)))", noMatch}, {"(Box (case 1 (2 3)))", noMatch}, {"(case (case 1 (2 3)) (x 1))", "1"}, {"(case (case 1 (2 3)) (3 1))", noMatch}, {"((case 1 (2 id)) 1)", noMatch}, {"(id (case 1 (2 id)) 1)", noMatch}, {"(let ((x (case 1 (2 3)))) x)", noMatch},
		{"(case (Just No) ((Just (Just x)) 1) (No 2))", noMatch}, {"(case (E 1 2 3 4 5 6 7 8) ((E 1 2 3 4 5 6 7 9) 1))", noMatch}, {"(case 1 (1 (case 2 (1 2))))", noMatch}, {"(case 1 (1 (case 2 (1 2))) (_ 5))", noMatch}, {"(sum (Cons 1 (Cons (case 1 (2 3)) Nil)))", noMatch},
	})
}
