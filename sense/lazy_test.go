package sense_test

import (
	"strings"
	"testing"
)

// bomb is a number that has no value, and what comes of looking at it.
type bomb struct{ text, error string }

func bombs() []bomb {
	return []bomb{
		{"(/ 1 0)", noDiv}, {"(% 1 0)", noDiv}, {"(case 1 (2 3))", noMatch}, {"(let ((x x)) x)", loop}, {"(let ((x (+ x 1))) x)", loop}, {"(fst (P (/ 1 0) 2))", noDiv}, {"(id (case True (False 1)))", noMatch}, {"(let ((a b) (b a)) b)", loop},
		{"((fn (x y) (/ x y)) 5 0)", noDiv}, {"(re (cpx (/ 1 0) 2))", noDiv}, {"(sum (Cons 1 (Cons 2 (case 1 (2 Nil)))))", noMatch},
	}
}

// unseen are expressions in which @, a number, isn't looked at, and what comes of them.
func unseen() [][2]string {
	return [][2]string{
		{"((fn (x) 1) @)", "1"}, {"((fn (x y) x) 1 @)", "1"}, {"((fn (x y) y) @ 1)", "1"}, {"(k 1 @)", "1"}, {"((k 1) @)", "1"}, {"(k k @ 1 2)", "1"}, {"(k id @ 2)", "2"}, {"(let ((g (k 1))) (g @))", "1"}, {"((fn (a b c d e f g h) e) @ @ @ @ 5 @ @ @)", "5"},
		{"(let ((x @)) 1)", "1"}, {"(let ((x 1) (y @) (z x)) z)", "1"}, {"(let ((x @) (y x) (z (+ x y))) 1)", "1"}, {"(let ((f (fn (x) @))) 1)", "1"}, {"(let ((g (k @))) 1)", "1"}, {"(let ((g (k @))) (case g (_ 1)))", "1"}, {"(let ((g (k @))) (case g (h 1)))", "1"}, {"(let ((x (let ((y @)) y))) 1)", "1"},
		{"(case @ (_ 1))", "1"}, {"(case @ (x 1))", "1"}, {"(case @ (x (k 1 x)))", "1"}, {"(case @ (_ 1) (2 3))", "1"}, {"(case 0 (0 1) (_ @))", "1"}, {"(case 1 (0 @) (_ 1))", "1"}, {"(case True (True 1) (False @))", "1"}, {"(case False (True @) (False 1))", "1"}, {"(case (case 1 (1 1)) (1 1) (2 @) (x @))", "1"},
		{"(case (P 1 @) ((P x _) x))", "1"}, {"(case (P 1 @) ((P x y) x))", "1"}, {"(case (P 1 @) ((P 2 3) 5) ((P x _) x))", "1"}, {"(case (P 1 @) ((P 2 3) 5) (_ 1))", "1"}, {"(case (P @ 1) ((P _ 2) 5) ((P _ x) x))", "1"}, {"(case (P @ 1) ((P x 2) x) ((P x y) y))", "1"},
		{"(case (Box @) (_ 1))", "1"}, {"(case (Box @) (b 1))", "1"}, {"(case (Box @) ((Box _) 1))", "1"}, {"(case (Box @) ((Box x) 1))", "1"}, {"(case (Box (Box @)) ((Box (Box x)) 1))", "1"}, {"(case (Just @) (No 2) ((Just _) 1))", "1"}, {"(case (fn (x) @) (_ 1))", "1"}, {"(case (cpx @ 1) (_ 1))", "1"}, {"(case (+ @ 1) (_ 1))", "1"},
		{"(fst (P 1 @))", "1"}, {"(snd (P @ 1))", "1"}, {"(case (Cons 1 (Cons @ Nil)) ((Cons x _) x) (Nil 0))", "1"}, {"(case (Cons @ (Cons @ Nil)) ((Cons _ (Cons _ Nil)) 1) (_ 0))", "1"}, {"(case (E @ @ @ 4 @ @ @ @) ((E _ _ _ 3 _ _ _ _) 0) ((E a _ c 4 e f g h) 1))", "1"},
		{"(let ((c (Cons 1 (Cons @ c)))) (case c ((Cons x _) x) (_ 0)))", "1"}, {"(id (k 1) @)", "1"}, {"((case 1 (1 (k 1)) (_ id)) @)", "1"}, {"((let ((x @)) (fn (y) y)) 1)", "1"}, {"(let ((f (fn (x) (k 1 (+ x @))))) (f @))", "1"}, {"(case (P @ id) ((P _ f) (f 1)))", "1"}, {"(id (id (id (k 1))) (id @))", "1"},
	}
}

// TestNotLookedAt: what isn't looked at counts for nothing, whatever is wrong with it.
func TestNotLookedAt(t *testing.T) {
	for _, b := range bombs() {
		for _, c := range unseen() {
			checkMain(t, strings.ReplaceAll(c[0], "@", b.text), c[1])
			checkProgram(t, withMain("(def bad () "+b.text+")", strings.ReplaceAll(c[0], "@", "bad")), c[1])
		}
		checkProgram(t, withMain("(def bad () "+b.text+") (def worse (x) "+b.text+")", "1"), "1")
		checkProgram(t, withMain("(def bad (x) "+b.text+")", "(case bad (f (case (bad 1) (y 1))))"), "1")
		checkProgram(t, withMain("(def bad (x y) "+b.text+")", "(case (bad 1) (f 1))"), "1")
		checkProgram(t, withMain("(def loop (n x) (case n (0 n) (_ (loop (- n 1) (+ x "+b.text+")))))", "(loop 100 1)"), "0")
	}
}

// seen are expressions in which @ is looked at.
func seen() []string {
	return []string{
		"@", "(+ @ 1)", "(+ 1 @)", "(- @ 1)", "(- 1 @)", "(* @ 0)", "(* 0 @)", "(/ @ 1)", "(/ 1 @)", "(% @ 1)", "(% 1 @)", "(= @ 1)", "(= 1 @)", "(< @ 1)", "(< 1 @)", "(cpx @ 1)", "(cpx 1 @)", "(re (cpx @ 1))", "(re (cpx 1 @))", "(im (cpx @ 1))", "(im (cpx 1 @))", "(cadd (cpx @ 1) (cpx 2 3))", "(cadd (cpx 2 3) (cpx 1 @))", "(cmul (cpx @ 1) (cpx 0 0))", "(cmul (cpx 0 0) (cpx 1 @))",
		"((fn (x) x) @)", "((fn (x y) x) @ 1)", "((fn (x y) y) 1 @)", "(id @)", "(k @ 1)", "((k @) 1)", "(k k 1 @ 2)", "(let ((g (k @))) (g 1))", "((fn (a b c d e f g h) h) 1 2 3 4 5 6 7 @)", "(let ((x @)) x)", "(let ((x @) (y x)) y)", "(let ((y x) (x @)) y)", "(let ((x 1)) @)", "(let ((f (fn (x) @))) (f 1))", "((fn (x) @) 1)", "((case @ (1 id) (_ id)) 1)", "((let ((x @)) (k x)) 1)",
		"(case @ (1 1) (_ 2))", "(case @ (1 1) (x 2))", "(case @ (x x))", "(case 1 (1 @))", "(case 1 (_ @))", "(case 1 (0 1) (x @))", "(case (P @ 1) ((P 1 _) 1) (_ 2))", "(case (P 1 @) ((P 1 2) 1) (_ 2))", "(case (P 1 @) ((P _ 2) 1) (_ 2))", "(case (P 1 @) ((P _ y) y))", "(case (P @ 1) (p (fst p)))", "(case (Box (Box @)) ((Box (Box 1)) 1) (_ 2))", "(case (Box @) ((Box x) (+ x 1)))", "(case (P 2 @) ((P 1 1) 1) ((P 2 2) 2) (_ 3))",
		"(Box @)", "(Box (Box @))", "(P 1 @)", "(P @ 1)", "(Cons 1 (Cons @ Nil))", "(E 1 2 3 4 5 6 7 @)", "(E @ 2 3 4 5 6 7 8)", "(let ((x @)) (Box x))", "(P (P 1 2) (P 3 (P 4 @)))", "(Cons 1 (case @ (1 Nil) (_ Nil)))", "(sum (Cons 1 (Cons @ Nil)))", "(let ((x (P 1 @))) (snd x))", "(up @ 1)", "(nat @)", "(let ((x (case x (_ @)))) x)",
	}
}

// TestLookedAt: what is looked at, and has no value, is the outcome.
func TestLookedAt(t *testing.T) {
	for _, b := range bombs() {
		for _, x := range seen() {
			checkMain(t, strings.ReplaceAll(x, "@", b.text), b.error)
			checkProgram(t, withMain("(def bad () "+b.text+")", strings.ReplaceAll(x, "@", "bad")), b.error)
		}
	}
}

// TestFirstOfTwo: of two parts that have no value the one at 1 comes first, on the way to the outcome.
func TestFirstOfTwo(t *testing.T) {
	orders := []string{
		"(+ 1 2)", "(- 1 2)", "(* 1 2)", "(/ 1 2)", "(% 1 2)", "(= 1 2)", "(< 1 2)", "(cpx 1 2)", "(cadd (cpx 0 1) (cpx 2 0))", "(cmul (cpx 1 2) (cpx 0 0))", "(+ (+ 0 1) 2)", "(+ (* 0 1) (* 0 2))", "(re (cpx 1 2))", "(+ (re (cpx 0 1)) 2)",
		"(P 1 2)", "(Cons 1 (Cons 2 Nil))", "(P (P 0 1) 2)", "(P (Box (Box 1)) 2)", "(E 0 0 0 1 0 0 0 2)", "(P (Box 0) (P 1 2))", "(let ((x 2) (y 1)) (P y x))", "(P (+ 0 1) (+ 2 0))", "(P 1 (P 2 0))",
		"((fn (x y) (+ y x)) 2 1)", "((fn (x y) (+ x y)) 1 2)", "(let ((x 2) (y 1)) (+ y x))", "(let ((x (+ 1 y)) (y 2)) x)", "(k 1 2)", "(case 1 (0 2) (_ 2))", "(case (P 1 2) ((P 0 0) 0) (_ 0))", "(case (P 2 1) ((P _ 0) 0) (_ 2))", "(case (P 2 1) ((P x 0) 0) ((P 0 _) 0) (_ 2))", "(case 2 (x (+ 1 x)))", "(case 0 (0 1) (_ 2))", "(case 0 (5 2) (_ 1))",
		"((case 1 (0 id) (_ id)) 2)", "((let ((x 1)) (case x (0 id) (_ id))) 2)", "(case (Box 2) ((Box x) (+ 1 x)))", "(fst (P 1 2))", "(snd (P 2 1))", "(let ((p (P 2 1))) (+ (snd p) (fst p)))", "(case (P (P 2 1) 2) ((P (P _ 0) 0) 0) (_ 2))", "(/ (+ 0 1) (* 0 2))", "(/ 1 0)", "(% 1 0)", "(/ 5 (+ 1 2))",
	}
	for _, a := range bombs() {
		for _, b := range bombs() {
			if a.error == b.error {
				continue
			}
			for _, x := range orders {
				checkMain(t, strings.NewReplacer("1", a.text, "2", b.text).Replace(x), a.error)
			}
		}
	}
}
