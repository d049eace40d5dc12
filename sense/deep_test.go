package sense_test

import (
	"fmt"
	"strings"
	"testing"

	"reverie/api"
	"reverie/made"
)

// TestDeepTexts has lists in lists as deep as there may be: main's is one, so that 39 are left.
func TestDeepTexts(t *testing.T) {
	checkMains(t, [][2]string{
		{made.Inside(39, "(+ 1 @)", "1"), "40"}, {made.Inside(39, "(+ @ 1)", "1"), "40"}, {made.Inside(39, "(id @)", "5"), "5"}, {made.Inside(39, "(k @ 1)", "5"), "5"}, {made.Inside(39, "(S @)", "Z"), nested(39)}, {made.Inside(39, "(Cons 7 @)", "Nil"), made.Inside(39, "(Cons 7 @)", "Nil")},
		{made.Inside(37, "(let ((x 1)) @)", "x"), "1"}, {made.Inside(13, "(let ((x @)) (+ x 1))", "5"), "18"}, {made.Inside(19, "((fn (x) @) 5)", "x"), "5"}, {made.Inside(19, "(case 5 (x @))", "x"), "5"}, {made.Inside(19, "(case 5 (5 @))", "6"), "6"}, {made.Inside(19, "(case (S @) ((S x) x))", "Z"), "Z"},
		{"(case " + made.Inside(36, "(S @)", "(S Z)") + " (" + made.Inside(36, "(S @)", "(S x)") + " x))", "Z"}, {"(case " + made.Inside(37, "(S @)", "Z") + " (" + made.Inside(37, "(S @)", "Z") + " 1))", "1"}, {"(case " + made.Inside(36, "(S @)", "Z") + " (" + made.Inside(37, "(S @)", "x") + " 1) (_ 2))", "2"},
		{"(case " + made.Inside(37, "(P @ 1)", "2") + " (" + made.Inside(37, "(P @ 1)", "x") + " x))", "2"}, {"(case " + made.Inside(37, "(P 1 @)", "2") + " (" + made.Inside(37, "(P 1 @)", "3") + " 1) (" + made.Inside(37, "(P 1 @)", "2") + " 2))", "2"}, {"(case " + made.Inside(37, "(P 1 @)", "(/ 1 0)") + " (" + made.Inside(37, "(P 1 @)", "x") + " 3))", "3"},
	})
}

// TestLargeTexts has as many parts of each kind as there may be, and texts as long.
func TestLargeTexts(t *testing.T) {
	list, want := "(def main () l0) ", "Nil"
	for i := range 90 {
		list += fmt.Sprintf("(def l%d () (Cons %d l%d)) ", i, i, i+1)
		want = fmt.Sprintf("(Cons %d %s)", 89-i, want)
	}
	checkProgram(t, "(data List (a) (Nil) (Cons a (List a))) "+list+"(def l90 () Nil)", want)
	checkProgram(t, made.Numbered(99, "(def f# (x y) (+ x y)) ")+"(def main () (f98 (f0 1 2) (f50 3 4)))", "10")
	cons := "(data C () " + made.Numbered(100, "(C#) ") + ") "
	for i := range 7 {
		alts := ""
		for j := range 15 {
			alts += fmt.Sprintf("(C%d %d) ", i*15+j, j)
		}
		checkProgram(t, cons+fmt.Sprintf("(def f (c) (case c %s(_ -1))) (def main () (+ (* 100 (f C%d)) (f C%d)))", strings.Replace(alts, "(C100 10) (C101 11) (C102 12) (C103 13) (C104 14) ", "", 1), min(i*15+14, 99), i*15), fmt.Sprint(100*min(14, 99-i*15)))
	}
	long := strings.Repeat("1", 18)
	checkProgram(t, "(def main () (+ "+long+" "+long+"))"+strings.Repeat(" ", api.MaxSource-55), "222222222222222222")
	sums := made.Inside(37, "(+ (+ (+ 1 2) (+ 3 4)) @)", "1")
	checkProgram(t, strings.Repeat("\n", 10)+"(def main () "+sums+")", "371")
}

// TestLongLists has lists as long as a tree may be, and such that no tree is made of, far longer.
func TestLongLists(t *testing.T) {
	const lists = "(def map (f l) (case l (Nil Nil) ((Cons x xs) (Cons (f x) (map f xs))))) (def fold (f a l) (case l (Nil a) ((Cons x xs) (fold f (f a x) xs)))) (def join (a b) (case a (Nil b) ((Cons x xs) (Cons x (join xs b))))) (def rev (l a) (case l (Nil a) ((Cons x xs) (rev xs (Cons x a))))) (def last (l) (case l ((Cons x Nil) x) ((Cons _ xs) (last xs)))) (def take (n l) (case n (0 Nil) (_ (case l (Nil Nil) ((Cons x xs) (Cons x (take (- n 1) xs)))))))"
	down := "Nil"
	for i := range 2047 {
		down = fmt.Sprintf("(Cons %d %s)", i, down)
	}
	for _, row := range [][2]string{
		{"(rev (up 0 2047) Nil)", down}, {"(map (fn (x) (- 2046 x)) (up 0 2047))", down}, {"(sum (up 0 50000))", "1249975000"}, {"(fold (fn (a x) (+ a x)) 0 (up 0 50000))", "1249975000"}, {"(sum (map (fn (x) (* 2 x)) (join (up 0 10000) (up 0 10000))))", "199980000"}, {"(last (rev (up 0 30000) Nil))", "0"},
		{"(last (join (join (join (up 0 1000) (up 0 1000)) (up 0 1000)) (Cons 5 Nil)))", "5"}, {"(let ((ones (Cons 1 ones))) (sum (take 30000 ones)))", "30000"}, {"(let ((l (up 0 20000))) (- (sum l) (sum (rev l Nil))))", "0"}, {"(let ((all (Cons 1 (map (fn (x) (+ x 1)) all)))) (last (take 10000 all)))", "10000"},
		{"(case (nat 30000) ((S n) (let ((count (fn (m) (case m (Z 0) ((S p) (+ 1 (count p))))))) (count n))))", "29999"}, {"(case (rev (up 0 2000) Nil) ((Cons x (Cons y _)) (- x y)))", "1"},
	} {
		checkWith(t, withMain(lists, row[0]), row[1], plenty)
	}
}

// TestDeepValues has values that wait for values, far deeper than any text.
func TestDeepValues(t *testing.T) {
	const s = "(def chain (n x) (case n (0 x) (_ (chain (- n 1) (+ x 1))))) (def through (n x) (case n (0 x) (_ (through (- n 1) x)))) (def call (n) (case n (0 0) (_ (+ 1 (call (- n 1)))))) (def calls (n) (case n (0 id) (_ (fn (x) (calls (- n 1) (+ x 1)))))) (def pairs (n p) (case n (0 p) (_ (pairs (- n 1) (P (snd p) (fst p)))))) (def cases (n) (case n (0 True) (_ (case (cases (- n 1)) (True False) (False True))))) (def heads (n) (case n (0 id) (_ (fst (P (heads (- n 1)) 0))))) (def boxes (n) (case n (0 (Box 7)) (_ (case (boxes (- n 1)) ((Box x) (Box x))))))"
	for _, row := range [][2]string{
		{"(chain 100000 0)", "100000"}, {"(through 100000 7)", "7"}, {"(call 100000)", "100000"}, {"(calls 50000 0)", "50000"}, {"(fst (pairs 30000 (P 1 2)))", "1"}, {"(fst (pairs 30001 (P 1 2)))", "2"}, {"(cases 50001)", "False"}, {"(heads 50000 7)", "7"}, {"(boxes 50000)", "(Box 7)"},
		{"(let ((ones (Cons 1 ones))) (case (chain 50000 0) (x (+ x (sum Nil)))))", "50000"}, {"(through 50000 (/ 1 0))", noDiv}, {"(+ (call 30000) (case 1 (2 3)))", noMatch}, {"(let ((x (chain 30000 x))) x)", loop}, {"(let ((x (through 30000 x))) x)", loop}, {"(chain 30000 (let ((x x)) x))", loop},
	} {
		checkWith(t, withMain(s, row[0]), row[1], plenty)
	}
}

// TestCallsTillTheFuelEnds has programs that call themselves as often as the fuel lets them.
func TestCallsTillTheFuelEnds(t *testing.T) {
	for _, s := range []string{
		"(def f (x) (f x)) (def main () (f 1))", "(def f (x) (+ 1 (f x))) (def main () (f 1))", "(def f (x) (+ (f x) 1)) (def main () (f 1))", "(def f (x) (f (+ x 1))) (def main () (f 1))", "(def f (x) (f (f x))) (def main () (f 1))", "(def f (x y) ((f x) y)) (def main () (f 1 2))", "(def f (x) (case (f x) (1 1) (_ 2))) (def main () (f 1))",
		"(def f (x) (let ((y (f x))) (+ y 1))) (def main () (f 1))", "(def f (a b c d e f' g h) (f h a b c d e f' g)) (def main () (f 1 2 3 4 5 6 7 8))", "(def f (x) (case x (0 1) (_ (+ (f (- x 1)) (f (- x 1)))))) (def main () (f 1000))", "(data B (a) (B a)) (def f (x) (case (f x) ((B y) (B y)))) (def main () (f 1))",
		"(def f (x y) (case x (0 (f y y)) (_ (f (- x 1) (+ y 1))))) (def main () (f 9 9))", "(def f (x) (cmul (cpx 1 x) (f x))) (def main () (f 1))", "(data L () (N) (C Int L)) (def up (n) (C n (up (+ n 1)))) (def sum (l) (case l ((C x xs) (+ x (sum xs))) (N 0))) (def main () (sum (up 1)))",
	} {
		for _, fuel := range []int{1, 10, 100, 1000, 10000, 100000, 1000000} {
			checkWith(t, s, noFuel, fuel)
		}
	}
	checkWith(t, "(def f (x) (+ 1 (f (- x 1)))) (def main () (f 1))", noFuel, 3000000)
}
