package sense_test

import (
	"fmt"
	"strings"
	"testing"

	"reverie/api"
	"reverie/sense"
)

// size is how many parts a tree has.
func size(tree api.Tree) int {
	n := 1
	for _, a := range tree.Args {
		n += size(a)
	}
	return n
}

// checkSize asks for a tree of so many parts; ErrLong, if these are more than there may be.
func checkSize(t *testing.T, others, main string, want int) {
	t.Helper()
	p := parsed(t, withMain(others, main))
	got := answer(t, p, enough)
	if want > api.MaxTree {
		if got != long {
			t.Errorf("%s: %s, not %s", main, brief(got), long)
		}
		return
	}
	if out := sense.Run(p, enough); out.Error != api.OK || size(out.Tree) != want {
		t.Errorf("%s: error %d, %d parts, not %d", main, out.Error, size(out.Tree), want)
	}
}

// makers make trees of some shapes.
const makers = "(data T () (L) (T T T)) (data W () (W W W W W W W W W) (V)) (data O () (O O Int) (OE))" +
	"(def left (n) (case n (0 L) (_ (T (left (- n 1)) L)))) (def right (n) (case n (0 L) (_ (T L (right (- n 1)))))) (def both (n) (case n (0 L) (_ (T (both (- n 1)) (both (- n 1)))))) (def shared (n) (case n (0 L) (_ (let ((x (shared (- n 1)))) (T x x)))))" +
	"(def wide (n) (case n (0 V) (_ (W (wide (- n 1)) V V V V V V V)))) (def points (n) (case n (0 Nil) (_ (Cons (cpx n n) (points (- n 1)))))) (def o (n) (case n (0 OE) (_ (O (o (- n 1)) n))))"

// TestTreesOfAllSizes has trees of just as many parts as there may be, of one more, of fewer, and of many more.
func TestTreesOfAllSizes(t *testing.T) {
	for _, n := range []int{0, 1, 2, 100, 4094, 4095, 4096, 4097, 10000} {
		checkSize(t, makers, fmt.Sprintf("(nat %d)", n), n+1)
	}
	for _, n := range []int{1, 50, 2046, 2047, 2048, 5000} {
		checkSize(t, makers, fmt.Sprintf("(up 0 %d)", n), 2*n+1)
		checkSize(t, makers, fmt.Sprintf("(Box (up 0 %d))", n), 2*n+2)
		checkSize(t, makers, fmt.Sprintf("(points %d)", n), 2*n+1)
		checkSize(t, makers, fmt.Sprintf("(Box (points %d))", n), 2*n+2)
		checkSize(t, makers, fmt.Sprintf("(left %d)", n), 2*n+1)
		checkSize(t, makers, fmt.Sprintf("(Box (left %d))", n), 2*n+2)
		checkSize(t, makers, fmt.Sprintf("(right %d)", n), 2*n+1)
		checkSize(t, makers, fmt.Sprintf("(Box (right %d))", n), 2*n+2)
		checkSize(t, makers, fmt.Sprintf("(o %d)", n), 2*n+1)
	}
	for _, n := range []int{1, 5, 10, 11, 12, 13} {
		checkSize(t, makers, fmt.Sprintf("(both %d)", n), 1<<(n+1)-1)
		checkSize(t, makers, fmt.Sprintf("(Box (both %d))", n), 1<<(n+1))
		checkSize(t, makers, fmt.Sprintf("(shared %d)", n), 1<<(n+1)-1)
		checkSize(t, makers, fmt.Sprintf("(P 1 (shared %d))", n), 1<<(n+1)+1)
	}
	checkSize(t, makers, "(shared 40)", api.MaxTree+1)
	for _, n := range []int{1, 511, 512} {
		checkSize(t, makers, fmt.Sprintf("(wide %d)", n), 8*n+1)
	}
	checkSize(t, makers, "(P (nat 4093) 1)", 4096)
	checkSize(t, makers, "(P (nat 4094) 1)", 4097)
	checkSize(t, makers, "(P 1 (nat 4093))", 4096)
	checkSize(t, makers, "(P (cpx 1 2) (nat 4094))", 4097)
	checkSize(t, makers, "(P (nat 2046) (P (nat 2046) True))", 4097)
	checkSize(t, makers, "(P (nat 2046) (P (nat 2045) True))", 4096)
}

// TestTreesWithoutEnd: they have more parts than there may be.
func TestTreesWithoutEnd(t *testing.T) {
	for _, c := range [][2]string{
		{"", "(let ((x (Cons 1 x))) x)"}, {"(def ones () (Cons 1 ones))", "ones"}, {"(def from (n) (Cons n (from (+ n 1))))", "(from 0)"}, {"", "(let ((s (S s))) s)"}, {makers, "(let ((x (T x x))) x)"}, {makers, "(let ((x (T x L))) x)"}, {makers, "(let ((x (W V V V x V V V x))) x)"},
		{"", "(let ((x (Cons 1 y)) (y (Cons 2 x))) (P x y))"}, {"(def deep (n) (S (deep (+ n 1))))", "(deep 1)"}, {"(def both () (P (Just 1) both2)) (def both2 () (Cons (case both ((P _ x) 1)) both2))", "both"}, {makers, "(let ((x (O x 1))) x)"}, {makers, "(let ((x (O (O x 1) (/ 1 0)))) x)"},
	} {
		p := parsed(t, withMain(c[0], c[1]))
		if got := answer(t, p, enough); got != long {
			t.Errorf("%s: %s, not %s", c, brief(got), long)
		}
	}
}

// TestErrorsAndLongTrees: an error on the way ahead of the 4097th part comes first; behind it, it isn't met.
func TestErrorsAndLongTrees(t *testing.T) {
	const list = "(def ones (n x) (case n (0 x) (_ (Cons 1 (ones (- n 1) x))))) "
	for _, b := range bombs() {
		for _, c := range []struct{ x, want string }{
			{"(ones 2046 (Cons @ Nil))", b.error}, {"(ones 100 (Cons @ (ones 5000 Nil)))", b.error}, {"(P @ (ones 5000 Nil))", b.error}, {"(P (ones 5000 Nil) @)", long}, {"(ones 2049 (Cons @ Nil))", long}, {"(ones 3000 (case @ (_ (Cons @ Nil))))", long}, {"(P (ones 2000 Nil) (P @ (ones 2000 Nil)))", b.error}, {"(P (ones 2048 Nil) (P 1 @))", long},
		} {
			checkProgram(t, withMain(list, strings.ReplaceAll(c.x, "@", b.text)), c.want)
		}
	}
}

// TestOrderInTrees has a tree's parts from left to right, each with all its fields ahead of the next one: the first error decides.
func TestOrderInTrees(t *testing.T) {
	const div, none, ring = "(/ 1 0)", "(case 1 (2 3))", "(let ((x x)) x)"
	checkMains(t, [][2]string{
		{"(P " + div + " " + none + ")", noDiv}, {"(P " + none + " " + div + ")", noMatch}, {"(P " + ring + " " + div + ")", loop}, {"(P (P 1 " + div + ") " + none + ")", noDiv}, {"(P (Box (Box (Box " + ring + "))) " + none + ")", loop}, {"(P 1 (P " + none + " " + div + "))", noMatch},
		{"(E 1 2 " + none + " 4 " + div + " 6 " + ring + " 8)", noMatch}, {"(E 1 2 3 4 " + div + " 6 " + ring + " " + none + ")", noDiv}, {"(Cons 1 (Cons " + ring + " (Cons " + div + " Nil)))", loop}, {"(Cons 1 (case " + div + " (0 Nil) (_ (Cons " + none + " Nil))))", noDiv},
		{"(P (P (P " + ring + " 1) " + none + ") " + div + ")", loop}, {"(P (P (P 1 1) " + none + ") " + div + ")", noMatch}, {"(P (P (P 1 1) 1) " + div + ")", noDiv}, {"(let ((x " + none + ") (y " + div + ")) (P (P y x) (P x y)))", noDiv},
	})
}
