package sense_test

import (
	"fmt"
	"math"
	"strings"
	"testing"

	"reverie/api"
	"reverie/made"
	"reverie/plain"
	"reverie/show"
)

// leastFuel is how much fuel a program needs for its outcome, that comes with most of it.
func leastFuel(t *testing.T, p api.Program, most int) int {
	t.Helper()
	low, high := 0, most
	for high-low > 1 {
		if middle := low + (high-low)/2; answer(t, p, middle) == noFuel {
			low = middle
		} else {
			high = middle
		}
	}
	return high
}

// checkFuel asks how an outcome hangs on the fuel: with the greatest number, with forty for each word, with just enough, with one less, and with less and less.
func checkFuel(t *testing.T, p api.Program, want string, c plain.Words) {
	t.Helper()
	most := 40 * c.Greatest()
	if got := answer(t, p, most); got != want {
		t.Errorf("%s: %s with %d of fuel, not %s", show.Program(p), brief(got), most, brief(want))
		return // as more may never be used up
	}
	need := leastFuel(t, p, most)
	if need < c.Least() {
		t.Errorf("%s: takes %d steps, for %d words at least", show.Program(p), need, c.Least())
	}
	for _, fuel := range []int{need, need + 1, need + 2, 2 * need, most, most + 1, 1 << 31, math.MaxInt - 1, math.MaxInt} {
		if got := answer(t, p, fuel); got != want {
			t.Errorf("%s: %s with %d of fuel, %d needed: not %s", show.Program(p), brief(got), fuel, need, brief(want))
		}
	}
	for _, fuel := range []int{need - 1, need - 2, need / 2, need / 3, c.Least() - 1, 0, -1, -2, -need, math.MinInt + 1, math.MinInt} {
		if got := answer(t, p, fuel); fuel < need && got != noFuel {
			t.Errorf("%s: %s with %d of fuel, %d needed: not %s", show.Program(p), brief(got), fuel, need, noFuel)
		}
	}
}

// checkFuelOf asks likewise, of a program whose outcome is told.
func checkFuelOf(t *testing.T, s, want string) {
	t.Helper()
	p := parsed(t, s)
	told, c := plain.Run(p, 200000)
	if told != want {
		t.Fatalf("%s: the plain way says %s, the test %s", s, brief(told), brief(want))
	}
	checkFuel(t, p, want, c)
}

// nested is a number as a tree.
func nested(n int) string { return strings.Repeat("(S ", n) + "Z" + strings.Repeat(")", n) }

func TestFuel(t *testing.T) {
	checkFuelOf(t, "(def main () 7)", "7")
	checkFuelOf(t, "(def main () True)", "True")
	checkFuelOf(t, "(def main () (cpx 1 2))", "(cpx 1 2)")
	checkFuelOf(t, "(def main () (/ 1 0))", noDiv)
	checkFuelOf(t, "(def main () main)", loop)
	for _, row := range [][2]string{
		{"(case 1 (2 3))", noMatch}, {"(let ((x x)) x)", loop}, {"(let ((s (S s))) s)", long}, {"(Cons 1 (Cons (/ 1 0) Nil))", noDiv}, {"(P 1 (case 1 (2 3)))", noMatch}, {"(let ((x (Cons 1 (Cons (sum x) Nil)))) x)", loop}, {"(nat 4096)", long}, {"(nat 4095)", nested(4095)},
		{"(P 1 2)", "(P 1 2)"}, {"(E 1 2 3 4 5 6 7 8)", "(E 1 2 3 4 5 6 7 8)"}, {"(+ (* 2 3) (- 5 4))", "7"}, {"(sum (up 1 11))", "55"}, {"(let ((a b) (b c) (c 3)) a)", "3"}, {"((fn (a b c d e f g h) (E h g f e d c b a)) 1 2 3 4 5 6 7 8)", "(E 8 7 6 5 4 3 2 1)"},
		{"(case (P 1 (P 2 3)) ((P 2 _) 1) ((P 1 (P 1 x)) 2) ((P a (P b c)) (+ a (+ b c))))", "6"}, {"(id id id id id id id 5)", "5"}, {"(k (k (k 1)) 2 3 4)", "1"},
	} {
		checkFuelOf(t, withMain("", row[0]), row[1])
	}
}

// TestEachWordTakesSteps has programs in which many words are of one kind, so that it shows if these take no step, or more than forty.
func TestEachWordTakesSteps(t *testing.T) {
	for _, row := range [][2]string{
		{"(let ((x 1)) " + made.Inside(30, "(+ x @)", "x") + ")", "31"},
		{"(let ((a 7) (b a) (c b) (d c) (e d) (f e) (g f) (h g)) h)", "7"},
		{made.Inside(18, "(let ((a b) (b c) (c d) (d e) (e f) (f g) (g h) (h 1)) (+ a @))", "0"), "18"},
		{made.Inside(35, "(+ 1 @)", "1"), "36"},
		{made.Inside(18, "(re (cpx @ 1))", "1"), "1"},
		{made.Inside(18, "(case (= 1 1) (True @) (_ 2))", "1"), "1"},
		{made.Inside(35, "(id @)", "1"), "1"},
		{made.Inside(35, "(k @ 2)", "1"), "1"},
		{"(" + made.Inside(6, "(@ id)", "id") + " 1)", "1"},
		{made.Inside(18, "((fn (x) @) 1)", "1"), "1"},
		{made.Inside(35, "(let ((x 1)) @)", "1"), "1"},
		{made.Inside(18, "(case 1 (_ @))", "1"), "1"},
		{made.Inside(18, "(case 1 (1 @))", "1"), "1"},
		{made.Inside(18, "(case (Box @) ((Box x) x))", "1"), "1"},
		{made.Inside(18, "(case (E 1 2 3 4 5 6 7 8) ((E 1 2 3 4 5 6 7 8) @))", "1"), "1"},
		{made.Inside(35, "(Box @)", "1"), made.Inside(35, "(Box @)", "1")},
		{made.Inside(35, "(P 1 @)", "1"), made.Inside(35, "(P 1 @)", "1")},
		{"(let ((f (fn (a b c d e f g h) a))) " + made.Inside(4, "((((((((f @) 2) 3) 4) 5) 6) 7) 8)", "1") + ")", "1"},
		{"(let ((f (fn (a b c d e f g h) a))) " + made.Inside(35, "(f @ 2 3 4 5 6 7 8)", "1") + ")", "1"},
	} {
		checkFuelOf(t, withMain("", row[0]), row[1])
	}
	checkFuelOf(t, doubled(60)+"(def main () a60)", fmt.Sprint(1<<60))
	checkFuelOf(t, "(def f (n) (case n (0 5) (_ (f (- n 1))))) (def main () (f 3000))", "5")
}

// TestGreatTreesTakeSteps has trees with many parts, of which few were looked for.
func TestGreatTreesTakeSteps(t *testing.T) {
	s := "(let ((a1 (T L L))) "
	for i := range 10 {
		s += fmt.Sprintf("(let ((a%d (T a%d a%d))) ", i+2, i+1, i+1)
	}
	p := parsed(t, withMain(makers, s+"a11"+strings.Repeat(")", 11)))
	want, c := plain.Run(p, 200000)
	if c.Parts != 4095 || c.Looked > 200 {
		t.Fatal("the plain way counts other words:", c)
	}
	checkFuel(t, p, want, c)
}

// TestLookedAtAgain: that a value is looked at again takes no more than what is counted, however often patterns do so.
func TestLookedAtAgain(t *testing.T) {
	alts := ""
	for i := range 15 {
		alts += fmt.Sprintf("((E 1 2 3 4 5 6 7 %d) 0) ", i+9)
	}
	checkFuelOf(t, withMain("(def f (n x) (case n (0 n) (_ (case x "+alts+"(_ (f (- n 1) x))))))", "(f 100 (E 1 2 3 4 5 6 7 8))"), "0")
	checkFuelOf(t, withMain("(def f (n x) (case n (1 1) (2 2) (3 3) (4 4) (5 5) (6 6) (7 7) (8 8) (9 9) (10 10) (11 11) (12 12) (13 13) (14 14) (15 15) (_ (f (- n x) x))))", "(f 1000 5)"), "15")
}
