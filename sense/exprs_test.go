package sense_test

import (
	"fmt"
	"strings"
	"testing"
)

func TestValues(t *testing.T) {
	checkMains(t, [][2]string{
		{"7", "7"}, {"0", "0"}, {"-7", "-7"}, {"999999999999999999", "999999999999999999"}, {"-999999999999999999", "-999999999999999999"},
		{"True", "True"}, {"False", "False"}, {"Nil", "Nil"}, {"(Cons 1 Nil)", "(Cons 1 Nil)"}, {"(P 1 2)", "(P 1 2)"}, {"(P (P 1 True) (Box (cpx 3 4)))", "(P (P 1 True) (Box (cpx 3 4)))"},
		{"(E 1 2 3 4 5 6 7 8)", "(E 1 2 3 4 5 6 7 8)"}, {"(Box (Box (Box Nil)))", "(Box (Box (Box Nil)))"}, {"(Cons (+ 1 2) (Cons (* 3 4) Nil))", "(Cons 3 (Cons 12 Nil))"}, {"(Box ((fn (x) x) 5))", "(Box 5)"},
		{"(let ((x 5)) (P x x))", "(P 5 5)"}, {"(up 1 4)", "(Cons 1 (Cons 2 (Cons 3 Nil)))"}, {"(sum (up 1 101))", "5050"}, {"(nat 3)", "(S (S (S Z)))"},
		{"(fst (P 1 2))", "1"}, {"(snd (P 1 2))", "2"}, {"(let ((p (cpx 1 2))) (P p (cmul p p)))", "(P (cpx 1 2) (cpx -3 4))"},
	})
	checkProgram(t, "(def main () 7)", "7")
	checkProgram(t, "(def main () (let ((x x)) x))", loop)
	checkProgram(t, "(def main () (case (cpx 1 2) (_ 7)))", "7")
	checkProgram(t, "(data T () (C)) (def main () C)", "C")
	checkProgram(t, "(def other () 3) (def main () other) (def last () 4)", "3")
}

// TestNames: a name stands for what the innermost part says that binds it.
func TestNames(t *testing.T) {
	checkMains(t, [][2]string{
		{"((fn (x) ((fn (x) x) 2)) 1)", "2"}, {"((fn (x) (+ ((fn (x) x) 2) x)) 1)", "3"}, {"(let ((x 1)) (let ((x 2)) x))", "2"}, {"(let ((x 1)) (+ (let ((x 2)) x) x))", "3"},
		{"(case 1 (x (case 2 (x x))))", "2"}, {"(case 1 (x (+ (case 2 (x x)) x)))", "3"}, {"(case (P 1 2) ((P a b) (case (P 3 4) ((P b c) (+ (* a 100) (+ (* b 10) c))))))", "134"},
		{"(let ((x 1) (y 2)) ((fn (x) (- x y)) 10))", "8"}, {"(let ((id (fn (x) 9))) (id 1))", "9"}, {"((fn (k) k) 3)", "3"}, {"(case 4 (id id))", "4"}, {"(let ((nat 1)) nat)", "1"},
		{"(let ((x 1)) (let ((f (fn (y) (+ x y)))) (let ((x 10)) (f x))))", "11"}, {"((fn (x y) ((fn (y) (- x y)) x)) 5 3)", "0"}, {"(let ((x (let ((x 5)) x))) x)", "5"},
		{"(let ((x ((fn (x) (+ x 1)) 5))) x)", "6"}, {"(let ((x (case 5 (x (+ x 1))))) x)", "6"}, {"(case (P 1 2) ((P x y) (case x (y y))))", "1"}, {"(let ((main 3)) main)", "3"},
	})
	checkProgram(t, "(def x () 1) (def f (x) (+ x 1)) (def main () (+ (f 10) x))", "12")
	checkProgram(t, "(def main () (f 3)) (def f (main) (g main)) (def g (f) (* f f))", "9")
	checkProgram(t, "(def f (x) (g x)) (def g (y) x) (def x () 5) (def main () (f 3))", "5")
}

// TestFunctions has functions with fewer sleepers than they wait for, with as many, and with more.
func TestFunctions(t *testing.T) {
	checkMains(t, [][2]string{
		{"((fn (x) x) 5)", "5"}, {"((fn (a b c) (- (- a b) c)) 10 2 3)", "5"}, {"(((fn (a b c) (- (- a b) c)) 10) 2 3)", "5"}, {"(((fn (a b c) (- (- a b) c)) 10 2) 3)", "5"}, {"((((fn (a b c) (- (- a b) c)) 10) 2) 3)", "5"},
		{"((fn (a) (fn (b) (fn (c) (- (- a b) c)))) 10 2 3)", "5"}, {"((fn (a) (fn (b c) (- (- a b) c))) 10 2 3)", "5"}, {"((fn (a b) (fn (c) (- (- a b) c))) 10 2 3)", "5"}, {"(((fn (a b) (fn (c) (- (- a b) c))) 10) 2 3)", "5"},
		{"(let ((f (fn (a b) (- a b)))) (let ((g (f 10))) (P (g 1) (g 2))))", "(P 9 8)"}, {"(let ((f (fn (a b c) (E a b c 0 0 0 0 0)))) (let ((g (f 1))) (let ((h (g 2)) (i (g 3))) (P (P (h 4) (i 5)) (P (h 6) (g 7 8))))))", "(P (P (E 1 2 4 0 0 0 0 0) (E 1 3 5 0 0 0 0 0)) (P (E 1 2 6 0 0 0 0 0) (E 1 7 8 0 0 0 0 0)))"},
		{"(id id id id id id id 5)", "5"}, {"(k k 1 2 3)", "2"}, {"(k id 1 2)", "2"}, {"(k (k 1) 2 3)", "1"}, {"((k id) 1 2)", "2"}, {"(id (k 1) 2)", "1"}, {"(id k 1 2)", "1"},
		{"((fn (a b c d e f g h) (E h g f e d c b a)) 1 2 3 4 5 6 7 8)", "(E 8 7 6 5 4 3 2 1)"}, {"((fn (a b c d) (fn (e f g h) (E h g f e d c b a))) 1 2 3 4 5 6 7 8)", "(E 8 7 6 5 4 3 2 1)"}, {"((fn (a) (fn (b) (fn (c) (fn (d) (fn (e) (fn (f) (fn (g) (fn (h) (E h g f e d c b a)))))))) ) 1 2 3 4 5 6 7 8)", "(E 8 7 6 5 4 3 2 1)"},
		{"(((fn (a b c d e f g h) (E h g f e d c b a)) 1 2 3) 4 5 6 7 8)", "(E 8 7 6 5 4 3 2 1)"}, {"((((fn (a b c d e f g h) (E h g f e d c b a)) 1) 2 3 4 5 6) 7 8)", "(E 8 7 6 5 4 3 2 1)"},
		{"((case 1 (1 (fn (x) (+ x 1))) (_ id)) 5)", "6"}, {"((let ((y 3)) (fn (x) (+ x y))) 5)", "8"}, {"((fst (P (fn (x) (* x x)) 0)) 5)", "25"}, {"((case (Box id) ((Box f) f)) 5)", "5"},
		{"(let ((twice (fn (f x) (f (f x))))) (twice (twice (fn (x) (* x 2))) 1))", "16"}, {"(let ((twice (fn (f x) (f (f x))))) (twice twice (fn (x) (* x 2)) 1))", "16"}, {"(let ((dot (fn (f g x) (f (g x))))) (dot (fn (x) (+ x 1)) (fn (x) (* x 2)) 5))", "11"},
	})
	const three = "(def three (a b c) (E a b c 0 0 0 0 0)) (def one (a) (fn (b c) (three a b c))) (def none () (fn (a b c) (three a b c))) (def part () (three 1)) "
	for _, x := range []string{"(three 1 2 3)", "((three 1) 2 3)", "((three 1 2) 3)", "(((three 1) 2) 3)", "(one 1 2 3)", "((one 1) 2 3)", "((one 1 2) 3)", "(none 1 2 3)", "((none 1) 2 3)", "(part 2 3)", "((part 2) 3)", "(let ((f three)) (f 1 2 3))", "(let ((f (three 1))) (f 2 3))"} {
		checkProgram(t, withMain(three, x), "(E 1 2 3 0 0 0 0 0)")
	}
	checkProgram(t, withMain(three, "(P (part 2 3) (part 4 5))"), "(P (E 1 2 3 0 0 0 0 0) (E 1 4 5 0 0 0 0 0))")
}

// TestAllSplits has functions of eight arguments as fn of fn, and gives them the arguments in all ways, some at once.
func TestAllSplits(t *testing.T) {
	names := strings.Fields("a b c d e f g h")
	for split := range 1 << 7 {
		waits, gets := "(fn (a", "(it 1"
		ends := 1
		for i := 1; i < 8; i++ {
			if split>>(i-1)&1 == 1 {
				waits += ") (fn ("
				ends++
			}
			waits += " " + names[i]
			if split*37>>(i-1)&1 == 1 {
				gets = "(" + gets + ")"
			}
			gets += fmt.Sprint(" ", i+1)
		}
		waits += ") (E a b c d e f g h)" + strings.Repeat(")", ends)
		checkMain(t, "(let ((it "+waits+")) "+gets+"))", "(E 1 2 3 4 5 6 7 8)")
	}
}

// TestLets has names that use each other.
func TestLets(t *testing.T) {
	checkMains(t, [][2]string{
		{"(let ((a 1) (b (+ a 1)) (c (+ b a))) (+ c b))", "5"}, {"(let ((c (+ b a)) (b (+ a 1)) (a 1)) (+ c b))", "5"}, {"(let ((a (+ b 1)) (b 5)) a)", "6"},
		{"(let ((even (fn (n) (case n (0 True) (_ (odd (- n 1)))))) (odd (fn (n) (case n (0 False) (_ (even (- n 1))))))) (P (even 10) (P (odd 10) (P (even 7) (odd 7)))))", "(P True (P False (P False True)))"},
		{"(let ((f (fn (n) (case n (0 1) (_ (* n (f (- n 1)))))))) (f 10))", "3628800"}, {"(let ((x (Cons 1 y)) (y (Cons 2 x))) (case x ((Cons a (Cons b (Cons c (Cons d _)))) (E a b c d 0 0 0 0)) (_ (E 0 0 0 0 0 0 0 0))))", "(E 1 2 1 2 0 0 0 0)"},
		{"(let ((x (P 1 (fst x)))) x)", "(P 1 1)"}, {"(let ((x (P (snd x) 1))) x)", "(P 1 1)"}, {"(let ((x (P 1 (fst y))) (y (P (+ (fst x) 1) (snd x)))) (P x y))", "(P (P 1 2) (P 2 2))"},
		{"(let ((a 1) (b 2) (c 3) (d 4) (e 5) (f 6) (g 7) (h 8)) (E h g f e d c b a))", "(E 8 7 6 5 4 3 2 1)"}, {"(let ((a b) (b c) (c d) (d e) (e f) (f g) (g h) (h 8)) a)", "8"}, {"(let ((h g) (g f) (f e) (e d) (d c) (c b) (b a) (a 8)) h)", "8"},
		{"(let ((a 1)) (let ((b (+ a 1))) (let ((c (+ b 1))) (E a b c 0 0 0 0 0))))", "(E 1 2 3 0 0 0 0 0)"}, {"(let ((x (case x (_ 7)))) x)", "7"}, {"(let ((x (case x (y 7)))) x)", "7"}, {"(let ((f (fn (x) (f x)))) 1)", "1"},
		{"(let ((ones (Cons 1 ones))) (case ones ((Cons x (Cons y (Cons z _))) (+ x (+ y z))) (_ 0)))", "3"}, {"(let ((f (fn (x) (g x))) (g (fn (y) (+ y h))) (h 3)) (f 1))", "4"}, {"((let ((f (fn (x y) (- x y)))) (f 10)) 3)", "7"},
		{"(let ((fib (fn (a b) (Cons a (fib b (+ a b)))))) (let ((take (fn (n l) (case n (0 Nil) (_ (case l ((Cons x xs) (Cons x (take (- n 1) xs))) (_ Nil))))))) (take 8 (fib 0 1))))", "(Cons 0 (Cons 1 (Cons 1 (Cons 2 (Cons 3 (Cons 5 (Cons 8 (Cons 13 Nil))))))))"},
	})
}

// TestDefinitions: they may use each other, whatever their order.
func TestDefinitions(t *testing.T) {
	checkProgram(t, "(def main () a) (def a () b) (def b () (+ c 1)) (def c () 4)", "5")
	checkProgram(t, "(def c () 4) (def b () (+ c 1)) (def a () b) (def main () a)", "5")
	checkProgram(t, "(def even (n) (case n (0 True) (_ (odd (- n 1))))) (def main () (even 101)) (def odd (n) (case n (0 False) (_ (even (- n 1)))))", "False")
	checkProgram(t, withMain("(def a () (P 1 (fst b))) (def b () (P 2 (fst a)))", "(P a b)"), "(P (P 1 2) (P 2 1))")
	checkProgram(t, withMain("(def from (n) (Cons n (from (+ n 1)))) (def all () (from 1)) (def nth (l n) (case l ((Cons x xs) (case n (0 x) (_ (nth xs (- n 1))))) (_ 0)))", "(P (nth all 0) (nth all 100))"), "(P 1 101)")
	checkProgram(t, withMain("(def eight (a b c d e f g h) (E h g f e d c b a))", "(eight 1 2 3 4 5 6 7 8)"), "(E 8 7 6 5 4 3 2 1)")
}
