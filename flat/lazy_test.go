package flat_test

import (
	"fmt"
	"strings"
	"testing"

	"reverie/made"
	"reverie/plain"
)

// bad are numbers that have no value, and what comes of looking at them.
func bad() [][2]string {
	return [][2]string{{"(/ 1 0)", noDiv}, {"(case 1 (2 3))", noMatch}, {"(let ((x x)) x)", loop}, {"(case (P 1 2) ((P 1 3) 1) ((P 2 _) 2))", noMatch}, {"(case (% 1 0) (1 2) (_ 3))", noDiv}, {"(let ((x (case x (1 1) (_ 2)))) x)", loop}}
}

// TestFromLeft: what is looked at first on the way, and has no value, comes, and what comes behind it isn't looked at: 1 stands for the first one, 2 for the second one.
func TestFromLeft(t *testing.T) {
	t.Parallel()
	orders := []string{
		"(case (P 1 2) ((P 5 5) 0) (_ 0))", "(case (P 2 1) ((P _ 5) 0) (_ 0))", "(case (P 2 1) ((P x 5) x) (_ 0))", "(case (P 2 1) ((P x 5) 0) ((P 5 y) 0) (_ 0))", "(case (P 0 (P 1 2)) ((P 0 (P 5 5)) 0) (_ 0))", "(case (P (P 1 2) 2) ((P (P 5 5) 5) 0) (_ 0))", "(case (P (P 0 1) 2) ((P (P 0 5) 5) 0) (_ 0))", "(case (P (P 0 1) 2) ((P (P _ 5) 5) 0) (_ 0))",
		"(case (P (P 0 2) 1) ((P (P 5 5) 5) 0) ((P _ 5) 0))", "(case (P (P 0 2) 1) ((P (P 0 x) 5) x) (_ 0))", "(case (P (Just 1) 2) ((P No 5) 0) ((P (Just 5) 5) 0) (_ 0))", "(case (P (Just 2) 1) ((P No 5) 0) ((P (Just x) 5) x) (_ 0))", "(case (P (Just 2) 1) ((P (Just _) 5) 0) ((P (Just 5) _) 0) (_ 0))",
		"(case (E 0 0 1 0 0 2 0 0) ((E 0 0 5 0 0 5 0 0) 0) (_ 0))", "(case (E 0 0 2 0 0 1 0 0) ((E 0 0 _ 0 0 5 0 0) 0) ((E 0 0 5 _ _ _ _ _) 0) (_ 0))", "(case (E 0 0 2 0 0 1 0 0) ((E 5 0 5 0 0 5 0 0) 0) ((E 0 0 a 0 0 5 0 0) 0) (_ 0))", "(case (Cons 0 (Cons 1 (Cons 2 Nil))) ((Cons 0 Nil) 0) ((Cons _ (Cons 5 (Cons 5 _))) 0) (_ 0))",
		"(case 1 (0 2) (_ 2))", "(case 1 (5 2))", "(case (+ 1 2) (5 0))", "(case (case 1 (5 2)) (5 2))", "(case (P 1 2) ((P x y) (+ x y)))", "(case (P 2 1) ((P x y) (+ y x)))", "(case (P 2 1) (p (snd p)))", "(case 0 (0 1) (_ 2))", "(case 0 (5 2) (_ 1))", "(case 2 (x 1))", "(case 2 (_ 1))", "(case (P 2 2) ((P _ _) 1))", "(case (P 0 2) ((P 5 _) 0) ((P 0 _) 1))", "(case (P 0 2) ((P 5 5) 0) ((P 0 _) 1))",
		"(let ((p (P 1 2))) (case p ((P 5 5) 0) (_ 0)))", "(let ((p (P 0 1))) (case p ((P 5 5) 0) ((P 0 5) 2)))", "((fn (p q) (case (P p q) ((P 5 5) 0) (_ 0))) 1 2)", "((fn (p q) (case (P q p) ((P 5 5) 0) (_ 0))) 2 1)", "(case (P (case 0 (5 2) (_ 1)) 2) ((P 5 5) 0))", "(case (P 0 (case 1 (5 2))) ((P 5 5) 2) ((P 0 5) 2))",
	}
	for _, a := range bad() {
		for _, b := range bad() {
			for _, x := range orders {
				checkText(t, made.WithMain("", strings.NewReplacer("1", a[0], "2", b[0]).Replace(x)), a[1])
			}
		}
	}
}

// TestNotLookedAt has cases that don't look at @: their first pattern is _, or a name, or what fails stands ahead of it.
func TestNotLookedAt(t *testing.T) {
	t.Parallel()
	for _, b := range append(bad(), [2]string{"(slow 1000000000)", ""}) {
		for _, x := range []string{
			"(case @ (_ 1))", "(case @ (x 1))", "(case @ (_ 1) (2 3))", "(case @ (x 1) (2 3))", "(case @ (x (k 1 x)))", "(case @ (x (case x (_ 1))))", "(case @ (x (case x (y (k 1 y)))))", "(case (+ @ 1) (_ 1))", "(case (case @ (2 3)) (x 1))", "(case (case @ (2 3) (_ 4)) (_ 1))", "(case (P @ @) (_ 1))", "(case (P @ @) (p 1))", "(case (P @ @) ((P _ _) 1))", "(case (P @ @) ((P x y) 1))",
			"(case (P 1 @) ((P x _) x))", "(case (P 1 @) ((P 2 3) 5) ((P x y) x))", "(case (P 1 @) ((P 2 3) 5) ((P 3 4) 6) (_ 1))", "(case (P @ 1) ((P _ 2) 5) ((P _ x) x))", "(case (P @ 1) ((P x 2) x) ((P _ y) y))", "(case (P No @) ((P (Just _) 1) 2) ((P No _) 1))", "(case (P (P 1 @) @) ((P (P 2 3) 4) 5) ((P (P x _) _) x))", "(case (E @ @ @ 4 @ @ @ @) ((E _ _ _ 3 1 1 1 1) 0) ((E a _ c 4 e f g h) 1))",
			"(case (Cons 1 (Cons @ @@)) ((Cons 2 (Cons 2 _)) 5) ((Cons x (Cons _ _)) x))", "(let ((x @)) (case x (_ 1)))", "(let ((x @)) (case x (x 1)))", "(let ((x @)) (case x (y 1)))", "((fn (x) (case x (y (k 1 y)))) @)", "(case 1 (2 @) (_ 1))", "(case 1 (1 1) (2 @))", "(case (P 1 2) ((P 1 3) @) ((P 2 _) @) ((P x _) x))", "(let ((x (case @ (1 2)))) 1)", "((fn (x) 1) (case @ (1 2)))", "(k 1 (case @ (1 2) (_ @)))", "(let ((f (fn (x) (case @ (1 x))))) 1)",
		} {
			x = strings.NewReplacer("@@", "(let ((l l)) l)", "@", b[0]).Replace(x)
			checkText(t, made.WithMain("(def slow (n) (case n (0 5) (_ (slow (- n 1)))))", x), "1")
		}
	}
}

// TestLookedAtOnce has programs that would take 2^40 words, or more, if what a case looks at were looked at for each pattern, or for each name.
func TestLookedAtOnce(t *testing.T) {
	t.Parallel()
	for _, row := range [][2]string{
		{"(case (d (- n 1)) (-1 0) (-2 0) (x (+ x 1)))", "(d 40)"}, {"(case (d (- n 1)) (-1 0) (-2 0) (-3 0) (-4 0) (_ n))", "(d 40)"}, {"(case (d (- n 1)) (x (case x (-1 0) (-2 0) (_ (+ x 1)))))", "(d 40)"}, {"(case (P (d (- n 1)) 1) ((P -1 _) 0) ((P -2 _) 0) ((P x y) (+ x y)))", "(d 40)"}, {"(case (P 1 (d (- n 1))) ((P 1 -1) 0) ((P 1 -2) 0) ((P x y) (+ x y)))", "(d 40)"},
		{"(case (Box (Box (d (- n 1)))) ((Box (Box -1)) 0) ((Box (Box -2)) 0) ((Box (Box x)) (+ x 1)))", "(d 40)"}, {"(case (+ 0 (d (- n 1))) (-1 0) (-2 0) (x (case (+ x 0) (-1 0) (-2 0) (y (+ y 1)))))", "(d 40)"}, {"(case (id (P 1 (P 2 (d (- n 1))))) ((P 1 (P 3 _)) 0) ((P 1 (P 2 -1)) 0) ((P 1 (P 2 -2)) 0) ((P x (P _ z)) (+ x z)))", "(d 40)"},
		{"(case (case (d (- n 1)) (-1 0) (-2 0) (x (+ x 0))) (-1 0) (-2 0) (x (+ x 1)))", "(d 40)"}, {"(case (d (- n 1)) (x (case (P x x) ((P -1 _) 0) ((P _ -2) 0) ((P x y) (- (+ x (+ y 1)) x)))))", "(d 40)"}, {"(let ((p (P (d (- n 1)) 1))) (case p ((P -1 _) 0) ((P _ 2) 0) ((P -2 1) 0) ((P x y) (+ x y))))", "(d 40)"},
	} {
		checkText(t, made.WithMain("(def d (n) (case n (0 0) (_ "+row[0]+")))", row[1]), "40")
	}
	checkText(t, made.WithMain("(def d (n) (case n (0 (P 0 0)) (_ (case (d (- n 1)) ((P -5 _) (P 0 0)) ((P -6 _) (P 0 0)) ((P x 0) (P (+ x 1) 0))))))", "(fst (d 40))"), "40")
	checkText(t, made.WithMain("(def d (n) (case n (0 Nil) (_ (case (d (- n 1)) ((Cons -1 Nil) Nil) ((Cons -1 _) Nil) ((Cons x (Cons -1 _)) Nil) (l (Cons n l))))))", "(sum (d 40))"), "820")
}

// TestOneLook: what is looked at takes its words once, however many patterns look at it.
func TestOneLook(t *testing.T) {
	t.Parallel()
	const slow = "(def slow (n) (case n (0 50) (_ (slow (- n 1))))) "
	for _, x := range []string{"(case (slow 1000) @)", "(case (slow 1000) (x (case x @)))", "(let ((x (slow 1000))) (case x @))", "((fn (x) (case x @)) (slow 1000))", "(case (Box (slow 1000)) ((Box x) (case x @)))", "(case (+ (slow 1000) 0) @)"} {
		var words [2]int
		for i, times := range []int{1, 15} {
			p := parsed(t, made.WithMain(slow, strings.Replace(x, "@", made.Numbered(times, "(# 1#) ")+"(_ 5)", 1)))
			if got := check(t, p, most); got != "5" {
				t.Errorf("%s: %s", made.Brief(p), got)
			}
			_, w := plain.Run(checkFlat(t, p), most)
			words[i] = w.Looked + w.Got
		}
		if more := words[1] - words[0]; more > 1000 {
			t.Errorf("%s: takes %d words more with 14 patterns more", x, more)
		}
	}
}

// TestNoPatternFits: what no pattern fits stops the program there, and only where it is looked at.
func TestNoPatternFits(t *testing.T) {
	for _, none := range []string{"(case 1 (2 3))", "(case (P 1 2) ((P 1 3) 1) ((P 2 _) 2))", "(case (Box (Box 1)) ((Box (Box 2)) 1))", "(case No ((Just x) x))", "(let ((x 5)) (case x (1 1) (2 2)))", "(case (+ 1 1) (3 1) (1 (/ 1 0)))"} {
		for _, row := range [][2]string{
			{"@", noMatch}, {"(P 1 @)", noMatch}, {"(+ @ (/ 1 0))", noMatch}, {"(+ (/ 1 0) @)", noDiv}, {"(k 1 @)", "1"}, {"(k @ 1)", noMatch}, {"(let ((x @)) 1)", "1"}, {"(let ((x @)) (+ x (/ 1 0)))", noMatch}, {"(case @ (_ 1))", "1"}, {"(case @ (x 1))", "1"}, {"(case @ (1 1) (_ 2))", noMatch}, {"(case 1 (1 @) (_ 2))", noMatch}, {"(case 1 (2 @) (_ 2))", "2"},
			{"(case (P 1 @) ((P 1 2) 3) (_ 4))", noMatch}, {"(case (P 2 @) ((P 1 2) 3) (_ 4))", "4"}, {"(case (P @ (/ 1 0)) ((P 1 2) 3))", noMatch}, {"(case (P (/ 1 0) @) ((P 1 2) 3))", noDiv}, {"(fst (P 1 @))", "1"}, {"((fn (x) (case x (1 2))) @)", noMatch}, {"(case 1 (1 2) (x @))", "2"}, {"(case (fn (x) @) (f 1))", "1"}, {"(case (fn (x) @) (f (f 1)))", noMatch},
		} {
			checkText(t, made.WithMain("", strings.ReplaceAll(row[0], "@", none)), row[1])
		}
	}
}

// TestPairsOfPatterns has all cases of two patterns of pairs, of pairs of which parts have no value.
func TestPairsOfPatterns(t *testing.T) {
	t.Parallel()
	pats := []string{"_", "p"}
	for _, l := range []string{"_", "x", "1", "2"} {
		for _, r := range []string{"_", "y", "1", "2"} {
			pats = append(pats, "(P "+l+" "+r+")")
		}
	}
	body := func(pat string, n int) string {
		for _, name := range []string{"x", "y"} {
			if strings.Contains(pat, name) {
				return fmt.Sprintf("(+ %d (* 10 %s))", n, name)
			}
		}
		return fmt.Sprint(n)
	}
	values := []string{"1", "2", "3", "(/ 1 0)", "(case 1 (2 3))"}
	for i, a := range pats {
		for j, b := range pats {
			f := "(def f (q) (case q (" + a + " " + body(a, 1) + ") (" + b + " " + body(b, 2) + ")))"
			for k, left := range values {
				check(t, parsed(t, made.WithMain(f, "(f (P "+left+" "+values[(i+j+k)%len(values)]+"))")), most)
			}
			check(t, parsed(t, made.WithMain(f, "(f (case 1 (2 (P 1 2))))")), most)
		}
	}
}
