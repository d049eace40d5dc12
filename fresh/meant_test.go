package fresh_test

import (
	"strings"
	"testing"

	"reverie/api"
	"reverie/made"
)

// TestMeant has programs whose outcome would be another one, if a name stood for another thing.
func TestMeant(t *testing.T) {
	t.Parallel()
	checkMains(t, [][3]string{
		{"", "((fn (x) (fn (x) x)) 1 2)", "2"}, {"", "((fn (x) ((fn (x) (+ x 10)) (+ x 1))) 1)", "12"}, {"", "((fn (x y) ((fn (y x) (P x y)) x y)) 1 2)", "(P 2 1)"}, {"", "((fn (x) (+ ((fn (x) x) 5) x)) 1)", "6"}, {"", "((fn (x) (+ x (let ((x 7)) x))) 1)", "8"}, {"", "((fn (x) (P (case 2 (x x)) x)) 1)", "(P 2 1)"},
		{"", "(let ((x 1)) (P (let ((x 2) (y x)) (+ x y)) x))", "(P 4 1)"}, {"", "(let ((x (let ((x 2)) x))) (+ x 1))", "3"}, {"", "(let ((x (fn (x) (+ x 1)))) (x (x 1)))", "3"}, {"", "(let ((x y) (y (+ z 1)) (z 2)) (P x (P y z)))", "(P 3 (P 3 2))"}, {"", "(let ((f (fn (n) (case n (0 0) (_ (+ n (f (- n 1)))))))) (f 10))", "55"}, {"", "(let ((l (Cons 1 (Cons 2 l)))) (case l ((Cons x (Cons y (Cons z l))) (P x (P y (P z (case l ((Cons x _) x))))))))", "(P 1 (P 2 (P 1 2)))"},
		{"", "(case (P 1 2) ((P x y) (case (P y x) ((P x y) (P x y)))))", "(P 2 1)"}, {"", "(case (P 1 (P 2 3)) ((P x (P y 4)) (P x y)) ((P y (P 2 x)) (P x y)) (_ (P 0 0)))", "(P 3 1)"}, {"", "(let ((x 5)) (case (Just 1) (No x) ((Just 2) x) ((Just x) (+ x 1))))", "2"}, {"", "(let ((x 5)) (case 3 (x (+ x (case 4 (x x))))))", "7"},
		{"(def f (x) (+ x 1)) (def g (f) (f 1))", "(P (f 1) (P (g f) (g (fn (f) (* f 9)))))", "(P 2 (P 2 9))"}, {"(def x () 1) (def f (x) (+ x (let ((x 5)) x)))", "(P x (P (f 10) (let ((x 3)) (f x))))", "(P 1 (P 15 8))"}, {"(def f (f) f) (def g (g f) (f g))", "(P (f 1) (g 2 f))", "(P 1 2)"}, {"(def f (main) (case main (0 5) (_ (f (- main 1)))))", "(let ((main 3)) (f main))", "5"},
		{"(def even (n) (case n (0 True) (_ (odd (- n 1))))) (def odd (n) (case n (0 False) (_ (even (- n 1)))))", "(P (even 10) (let ((even odd)) (even 10)))", "(P True False)"}, {"", "(let ((id k)) (id 1 2))", "1"}, {"", "(P (id 1) (let ((id (fn (x) (+ x 1)))) (id 1)))", "(P 1 2)"}, {"", "(let ((id id)) 1)", "1"},
		{"", "(case (E 1 2 3 4 5 6 7 8) ((E h g f e d c b a) ((fn (a b c d e f g h) (E a b c d e f g h)) a b c d e f g h)))", "(E 8 7 6 5 4 3 2 1)"}, {"", "(let ((a 1) (b a) (c b) (d c) (e d) (f e) (g f) (h g)) (let ((a (+ h 1)) (h 9)) (P a (P h b))))", "(P 10 (P 9 1))"}, {"", "(let ((x (up 1 4))) (let ((up sum)) (+ (up x) (let ((sum up)) (sum x)))))", "12"},
	})
}

// TestErrors has programs that stop with each error, behind names that hide others.
func TestErrors(t *testing.T) {
	t.Parallel()
	checkMains(t, [][3]string{
		{"", "(/ 1 0)", noDiv}, {"", "((fn (x) (let ((y (% x 0)) (x 5)) (+ y x))) 1)", noDiv}, {"", "(let ((x 0)) (case 1 (x (P x (let ((x 0)) (/ 1 x))))))", noDiv}, {"(def f (x) (+ x (f (- x 1))))", "(let ((f (fn (x) (case x (0 (/ 1 x)) (_ (f (- x 1))))))) (f 3))", noDiv}, {"", "(Cons 1 (Cons (let ((x 1)) (let ((y (/ x 0))) (let ((x y)) x))) Nil))", noDiv},
		{"", "(case 1 (2 3))", noMatch}, {"", "((fn (x) (case x (2 x) (3 (let ((x 1)) x)))) 1)", noMatch}, {"", "(let ((x 1)) (case (P x 2) ((P 2 x) x) ((P x 3) x)))", noMatch}, {"", "(let ((x No)) (case x ((Just x) x)))", noMatch}, {"", "(P 1 (case 2 (x (case x (1 x)))))", noMatch},
		{"", "(let ((x x)) x)", loop}, {"", "((fn (x) (let ((x x)) x)) 1)", loop}, {"", "(case 1 (x (let ((x (+ x 1))) x)))", loop}, {"", "(let ((x y) (y z) (z x)) (let ((w z)) w))", loop}, {"(def x () y) (def y () x)", "(P (let ((x 1)) x) x)", loop}, {"", "(let ((main 1)) (P main (let ((x main) (main x)) x)))", loop}, {"", "main", loop}, {"", "((fn (x) (let ((x (% x 0))) x)) 1)", loop}, {"", "(Cons 1 (Cons (let ((x 1)) (let ((x (/ x 0))) x)) Nil))", loop},
		{"", "(let ((s (S s))) s)", long}, {"", "(let ((x Z)) (let ((x (S x))) (let ((y x)) y)))", long}, {"", "(up 1 3000)", long}, {"", "(let ((x 1)) (let ((x (Cons y x)) (y 2)) x))", long},
	})
}

// TestNoEnd has programs without an outcome within any number of words.
func TestNoEnd(t *testing.T) {
	t.Parallel()
	checkMains(t, [][3]string{
		{"(def f (x) (f x))", "(f 1)", ""}, {"(def f (x) (f (let ((x (+ x 1))) x)))", "(f 1)", ""}, {"(def f (x) (+ x 1))", "(let ((f (fn (x) (f (+ x 1))))) (f 1))", ""}, {"", "(let ((f (fn (x) (let ((y (f (+ x 1)))) (+ y x))))) (f 1))", ""}, {"(def f (x y) (f y x))", "(let ((x 1)) (f x (case x (x x))))", ""}, {"", "(sum (let ((x (Cons 1 x))) x))", ""},
	})
}

// TestMadeMeant has programs that have types, with parts of all sorts.
func TestMadeMeant(t *testing.T) {
	t.Parallel()
	kinds := map[string]int{}
	for i := range 800 {
		s := made.Text(800000+i, made.Rule{Odd: []int{20, 60, 200}[i%3], Alts: 1 + i%6, Deep: 1 + i%4})
		if len(s) > api.MaxSource {
			continue
		}
		outcome := checkTyped(t, typed(t, s), 5000)
		if outcome != "" && !strings.HasPrefix(outcome, "error") {
			outcome = "a tree"
		}
		kinds[outcome]++
	}
	for _, outcome := range []string{"a tree", noDiv, noMatch, loop} {
		if kinds[outcome] < 40 {
			t.Error("too few programs of a kind were held:", kinds)
		}
	}
}
