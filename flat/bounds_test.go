package flat_test

import (
	"fmt"
	"strings"
	"testing"

	"reverie/made"
)

const few = "(data P (a b) (P a b)) (data E () (E Int Int Int Int Int Int Int Int)) (data T () (A T T) (B T T) (L)) (def k (x y) x) (def w (a b c d e f g h) a) "

// wide has some 8, 80 or 650 parts, if deep is 1, 2 or 3.
func wide(deep int) string {
	if deep == 0 {
		return "1"
	}
	return "(w" + strings.Repeat(" "+wide(deep-1), 8) + ")"
}

// great is an expression of so many parts that is n.
func great(n, deep int) string { return fmt.Sprintf("(k %d %s)", n, wide(deep)) }

// TestGreatBodies has bodies that are great, behind patterns that fail at many of their parts, ahead of such, and between.
func TestGreatBodies(t *testing.T) {
	t.Parallel()
	value := "(P (E 1 2 3 4 5 6 7 8) (P (E 1 2 3 4 5 6 7 8) (E 1 2 3 4 5 6 7 8)))"
	fails := "(P (E 1 2 3 4 5 6 7 8) (P (E 1 2 3 4 5 6 7 8) (E 1 2 3 4 5 6 7 9)))"
	for _, row := range [][2]string{
		{"(" + fails + " 0) (_ " + great(5, 3) + ")", "5"}, {"(" + fails + " " + great(4, 3) + ") (_ 5)", "5"}, {"(" + value + " " + great(5, 3) + ") (_ 6)", "5"}, {"(" + fails + " 0) (" + value + " " + great(5, 3) + ")", "5"}, {"(" + fails + " " + great(4, 3) + ")", noMatch}, {"(" + fails + " 1) (" + fails + " 2) (" + fails + " 3) (_ " + great(5, 3) + ")", "5"},
		{"(" + fails + " " + great(1, 2) + ") (" + fails + " " + great(2, 2) + ") (" + fails + " " + great(3, 2) + ") (_ 5)", "5"}, {"((P _ (P (E 0 _ _ _ _ _ _ _) _)) " + great(1, 2) + ") ((P (E 0 _ _ _ _ _ _ _) _) " + great(2, 3) + ") ((P _ (P _ (E _ _ _ _ _ _ _ 9))) " + great(3, 2) + ") (x 5)", "5"}, {"(" + fails + " 0) (x " + great(5, 3) + ")", "5"},
	} {
		checkText(t, few+"(def f (x) (case x "+row[0]+")) (def main () (f "+value+"))", row[1])
		checkText(t, few+"(def main () (case "+value+" "+row[0]+"))", row[1])
	}
}

// TestManyPatterns has as many patterns as one case may have, of many parts each, with constructors of the same name, and of different ones.
func TestManyPatterns(t *testing.T) {
	t.Parallel()
	const of, f = "(def main () (case (E 1 2 3 4 5 6 7 8) ", "(def f (x) (case x "
	body := " " + great(9, 2) + ")"
	checkText(t, few+of+made.Numbered(15, "((E 1 2 3 4 5 6 7 1#)"+body)+"(_ 5)))", "5")
	checkText(t, few+of+made.Numbered(16, "((E 1 2 3 4 5 6 7 1#)"+body)+"))", noMatch)
	checkText(t, few+of+made.Numbered(16, "((E 1# 2 3 4 5 6 7 8)"+body)+"))", noMatch)
	diagonal := ""
	for i := range 8 {
		stars := strings.Fields("_ _ _ _ _ _ _ _")
		stars[i] = "9"
		diagonal += "((E " + strings.Join(stars, " ") + ")" + body
		stars[7-i] = "0"
		diagonal += "((E " + strings.Join(stars, " ") + ") 8)"
	}
	checkText(t, few+of+diagonal+"))", noMatch)
	checkText(t, few+f+diagonal+")) (def main () (f (E 1 2 3 4 5 6 0 9)))", "9")
	kinds := ""
	for i := range 16 {
		p := "L"
		for j := range 4 {
			p = "(" + string("AB"[i>>j&1]) + " " + p + " " + []string{"L", "_", "x" + fmt.Sprint(j), "(A _ L)"}[(i+j)%4] + ")"
		}
		kinds += "(" + p + " " + great(i, 1) + ") "
	}
	for _, value := range []string{"(A (A (A (A L L) L) L) L)", "(B (B (B (B L L) L) (A L L)) L)", "(B (A (B (A L L) L) (A L L)) (A L L))", "(B (A (B (A L L) L) (A L L)) L)"} {
		check(t, parsed(t, few+f+kinds+")) (def main () (f "+value+"))"), most)
	}
	const cons = "(data C () (C0 C C) (C1 C C) (C2 C C) (C3 C C) (C4 C C) (C5 C C) (C6 C C) (C7 C C) (C8 C C) (C9 C C) (C10 C C) (C11 C C) (C12 C C) (C13 C C) (C14 C C) (C15 C C) (L)) "
	different := made.Numbered(16, "((C# (C# L L) (C# (C# L x) (C# y L))) (g (C# x (C# y (C# x y))))) ")
	checkText(t, cons+f+different+")) (def g (x) (f (g (g x)))) (def main () (f (C15 (C15 L L) (C15 (C15 L L) (C0 L L)))))", noMatch)
	checkText(t, cons+f+different+")) (def g (x) (case x ((C7 (C8 _ _) _) L) ((C7 _ (C8 (C9 _ _) _)) L) ((C7 _ (C7 z _)) z))) (def main () (f (C7 (C7 L L) (C7 (C7 L (C1 L L)) (C7 (C2 L L) L)))))", "(C2 L L)")
}

// TestDeepPatterns has patterns, and cases, in each other as deep as there may be.
func TestDeepPatterns(t *testing.T) {
	t.Parallel()
	checkMains(t, [][2]string{
		{"(case " + made.Inside(37, "(S @)", "Z") + " (" + made.Inside(37, "(S @)", "Z") + " 1))", "1"}, {"(case " + made.Inside(36, "(S @)", "Z") + " (" + made.Inside(37, "(S @)", "x") + " 1) (_ 2))", "2"}, {"(case " + made.Inside(37, "(P @ 1)", "2") + " (" + made.Inside(37, "(P @ 2)", "2") + " 1) (" + made.Inside(37, "(P @ 1)", "3") + " 2) (" + made.Inside(37, "(P @ 1)", "x") + " x))", "2"},
		{"(case " + made.Inside(37, "(P 1 @)", "2") + " (" + made.Inside(37, "(P 1 @)", "3") + " 1) (" + made.Inside(37, "(P 1 @)", "2") + " 2))", "2"}, {"(case " + made.Inside(37, "(P 1 @)", "(/ 1 0)") + " (" + made.Inside(37, "(P 1 @)", "x") + " 3))", "3"}, {"(case " + made.Inside(37, "(P 1 @)", "(/ 1 0)") + " (" + made.Inside(36, "(P 1 @)", "(P 2 1)") + " 3) (_ 4))", "4"}, {"(case " + made.Inside(37, "(P 1 @)", "(/ 1 0)") + " (" + made.Inside(37, "(P 1 @)", "1") + " 3) (_ 4))", noDiv},
		{made.Inside(19, "(case 5 (x @))", "x"), "5"}, {made.Inside(19, "(case 5 (5 @))", "6"), "6"}, {made.Inside(19, "(case 5 (6 7) (5 @) (_ 8))", "6"), "6"}, {made.Inside(19, "(case 5 (6 7) (_ @))", "6"), "6"}, {made.Inside(38, "(case @ (1 2) (2 1))", "1"), "1"}, {made.Inside(37, "(case @ (1 2) (2 3) (x 1))", "1"), "2"}, {made.Inside(37, "(case @ (x (+ x 1)))", "1"), "38"},
		{made.Inside(19, "(case (Box @) ((Box 0) 1) ((Box x) (+ x 1)))", "1"), "20"}, {made.Inside(18, "(case (P 1 (Box 2)) ((P 1 (Box 3)) 0) ((P _ (Box 2)) @))", "7"), "7"}, {made.Inside(12, "(case (P 1 (Box 2)) ((P 1 (Box 3)) 0) (_ (+ 1 @)))", "7"), "19"}, {made.Inside(19, "(case (S @) ((S x) x))", "Z"), "Z"}, {made.Inside(9, "(case (case (+ 1 @) (2 3) (x x)) (4 0) (y (+ y 1)))", "1"), "20"},
	})
}

// TestManySteps has programs whose cases come often, with few patterns and with many, that fit first, last, or not at all.
func TestManySteps(t *testing.T) {
	t.Parallel()
	for _, row := range [][3]string{
		{"(def f (n) (case n (0 5) (_ (f (- n 1)))))", "(f 3000)", "5"}, {"(def f (n) (case n (0 5) (m (f (- m 1)))))", "(f 3000)", "5"}, {"(def f (n) (case (+ n 0) (0 5) (m (f (- m 1)))))", "(f 3000)", "5"}, {"(def f (n) (case n (m (case m (0 5) (k (f (- k 1)))))))", "(f 3000)", "5"}, {"(def f (n) (case (< n 1) (True 5) (False (f (- n 1)))))", "(f 3000)", "5"}, {"(def f (n) (case (P n 1) ((P 0 _) 5) ((P m 2) 6) ((P m 1) (f (- m 1)))))", "(f 1000)", "5"},
		{"(def f (n l) (case (P n l) ((P 0 (Cons x _)) x) ((P _ (Cons 8 (Cons 8 _))) 0) ((P _ Nil) 1) ((P m (Cons x (Cons y (Cons z _)))) (f (- m 1) (Cons (+ x 1) (Cons y (Cons z Nil)))))))", "(f 500 (Cons 9 (up 1 3)))", "509"}, {"(def f (n) (case n " + made.Numbered(15, "(# #) ") + "(_ (f (- n 1)))))", "(f 1000)", "14"}, {"(def f (n e) (case n (0 0) (_ (case e " + made.Numbered(15, "((E 1 2 3 4 5 6 7 1#) 0) ") + "(_ (f (- n 1) e))))))", "(f 100 (E 1 2 3 4 5 6 7 8))", "0"},
		{"(def f (n e) (case n (0 0) (_ (case e ((E 1 2 3 4 5 6 7 8) (f (- n 1) e))" + made.Numbered(15, "((E 1 2 3 4 5 6 7 1#) 0) ") + "))))", "(f 100 (E 1 2 3 4 5 6 7 8))", "0"}, {"(def f (n e) (case n (0 (case e ((E _ _ _ _ _ _ _ 9) 1))) (_ (case e ((E 1 2 3 4 5 6 7 9) 1) (_ (f (- n 1) e))))))", "(f 100 (E 1 2 3 4 5 6 7 8))", noMatch}, {"(def f (n) (case n (0 (P 1 2)) (_ (case (f (- n 1)) ((P 1 3) (P 3 1)) ((P x y) (P x y))))))", "(f 1000)", "(P 1 2)"},
	} {
		checkText(t, made.WithMain(row[0], row[1]), row[2])
	}
}
