// Package made makes programs, and texts of such, by short rules. Tests hold layers against each other with them; no layer stands on it.
package made

// Head has types of all sorts, and some functions.
const Head = "(data List (a) (Nil) (Cons a (List a))) (data P (a b) (P a b)) (data Box (a) (Box a)) (data Nat () (Z) (S Nat)) (data May (a) (No) (Just a)) (data E () (E Int Int Int Int Int Int Int Int)) " +
	"(def id (x) x) (def k (x y) x) (def fst (p) (case p ((P a b) a))) (def snd (p) (case p ((P a b) b))) (def up (a b) (case (< a b) (True (Cons a (up (+ a 1) b))) (_ Nil))) (def sum (l) (case l (Nil 0) ((Cons x xs) (+ x (sum xs))))) (def nat (n) (case n (0 Z) (_ (S (nat (- n 1)))))) "

// WithMain is a program of the types and functions of Head, others, and main.
func WithMain(others, main string) string {
	return Head + others + " (def main () " + main + ")"
}

// Rule is by what a program is made.
type Rule struct {
	Odd  int // one in Odd expressions has no value, or none without itself
	Alts int // how many patterns a case has at most, but for a last one that fits always
	Deep int // how many patterns stand in each other at most
}

// Text is a program of some definitions, and main. The same state and rule make the same one.
func Text(state int, rule Rule) string {
	m := maker{Rule: rule, numbers: begin(state)}
	return m.program()
}

// numbers come one by one, in a turn that hangs on with which state they begin.
type numbers struct{ state uint32 }

func begin(state int) numbers { return numbers{uint32(state) * 2654435761} }

// some is a number below n.
func (m *numbers) some(n int) int {
	m.state = m.state*1664525 + 1013904223
	return int(m.state>>8) % n
}
