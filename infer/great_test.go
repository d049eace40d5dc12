package infer

import (
	"fmt"
	"strings"
	"testing"

	"reverie/api"
)

// greats are types by which each number of parts can be had: L has one part more than what it is of, P one more than both. What is in F has two more than what F is of, though G, of the same type, has that alone.
const greats = "(data L (a) (L a)) (data P (a b) (P a b)) (data T (a b c) (T a b c)) (data F (a) (F (L (L a))) (G a)) (def k (x) 1) (def main () 1) "

// value is definitions, of which the last one, v and the number, has a type of so many parts.
func value(parts int) []string {
	switch {
	case parts == 1:
		return []string{"(def v1 () 1) "}
	case parts%2 == 0:
		return append(value(parts-1), fmt.Sprintf("(def v%d () (L v%d)) ", parts, parts-1))
	}
	return append(value(parts/2), fmt.Sprintf("(def v%d () (P v%d v%d)) ", parts, parts/2, parts/2))
}

// checkParts asks whether a definition, alone in its group, has a type, behind all that is right. In def v# is a value of so many parts.
func checkParts(t *testing.T, def string, parts int, right bool) {
	t.Helper()
	def = strings.ReplaceAll(def, "#", fmt.Sprint(parts))
	s := greats + strings.Join(value(parts), "") + "|" + def
	if !right {
		checkNone(t, s)
		return
	}
	s, _ = marked(s)
	if got := answer(t, parsed(t, s)); strings.HasPrefix(got, "none") {
		t.Errorf("%s: %s", s, got)
	}
}

func TestValues(t *testing.T) {
	for _, parts := range []int{1, 2, 3, 498, 499, 500, 998, 999, 1000} {
		types, _, _ := Types(parsed(t, greats+strings.Join(value(parts), "")))
		if n := count(types[len(types)-1]); n != parts {
			t.Errorf("v%d has %d parts", parts, n)
		}
	}
	checkParts(t, "(def it () (P v# v#))", 500, false)
	checkParts(t, "(def it () (L v#))", 1000, false)
}

// great is an expression in which the greatest type has as many times the parts of one value, and more.
type great struct {
	x           string
	times, more int
}

// checkGreat asks of the greatest value with which no type is too great, and of the next one, if there is that.
func checkGreat(t *testing.T, def string, g great) {
	t.Helper()
	n := (1000 - g.more) / g.times
	checkParts(t, def, n, true)
	if n < 1000 {
		checkParts(t, def, n+1, false)
	}
}

// alone are expressions that are numbers, in each of which one type is greater than all others, of one expression or pattern alone, or of two of which one has the other's value. A value stands at x.
func alone() []great {
	return []great{
		{"(let ((y x)) 1)", 1, 0}, {"(case x (_ 1))", 1, 0}, {"(case x (y 1))", 1, 0}, {"(case (G x) (_ 1))", 1, 1}, {"(case (L x) ((L _) 1))", 1, 1},
		{"(let ((y (L x))) 1)", 1, 1}, {"(let ((y (L (L x)))) 1)", 1, 2}, {"(let ((y (P x 1))) 1)", 1, 2}, {"(let ((y (P x x))) 1)", 2, 1}, {"(let ((y (L (P x x)))) 1)", 2, 2}, {"(let ((y (T x x x))) 1)", 3, 1}, {"(let ((y (L (T x x x)))) 1)", 3, 2},
		{"(let ((y (fn (z) x))) 1)", 1, 2}, {"(let ((y (fn (z w) (P x x)))) 1)", 2, 5}, {"(let ((y (case 1 (1 (L x))))) 1)", 1, 1}, {"(let ((y (let ((z (L x))) z))) 1)", 1, 1}, {"(let ((y (let ((z 1)) (L x)))) 1)", 1, 1},
		{"(k x)", 1, 2}, {"((fn (z) 1) x)", 1, 2}, {"((fn (z) 1) (P x x))", 2, 3}, {"((fn (z w) z) 1 x)", 1, 4}, {"(((fn (z w) z) 1) x)", 1, 4}, {"(let ((y ((fn (z w) z) x))) 1)", 2, 3}, {"(let ((y (fn (z) 1))) (y x))", 1, 2},
		{"(case (G x) ((F _) 1) (_ 2))", 1, 2}, {"(case (G x) (y 2) ((F y) 1))", 1, 2}, {"(case (G x) ((F (L _)) 1))", 1, 2}, {"(case (G x) ((F (L y)) 1))", 1, 2}, {"(case (G x) ((F (L (L y))) 1))", 1, 2},
		{"(case (G (P x x)) ((F _) 1) (_ 2))", 2, 3}, {"(case (L (G x)) ((L (F _)) 1))", 1, 2}, {"(case (P 1 (G x)) ((P 2 (F _)) 1) (_ 2))", 1, 3},
	}
}

// TestGreatParts has each in a definition, and in others of its parts.
func TestGreatParts(t *testing.T) {
	t.Parallel()
	for _, g := range alone() {
		in := strings.ReplaceAll(g.x, "x", "v#")
		for _, def := range []string{
			"(def it () " + in + ")", "(def it (z) (+ 1 " + in + "))", "(def it () (let ((u " + in + ")) 1))", "(def it () (case 1 (1 2) (_ " + in + ")))",
			"(def it () (let ((u (fn (q) " + in + "))) (P (u 1) (u True))))", "(def it () (let ((x v#)) " + g.x + "))", "(def it () (fn (a b c) (P (fn (d) " + in + ") a)))",
		} {
			checkGreat(t, def, g)
		}
	}
}

// TestGreatInTheEnd has types that grow behind the place where they stand, or ahead of it, or both at once.
func TestGreatInTheEnd(t *testing.T) {
	t.Parallel()
	for _, g := range alone() {
		const x, is = "(def it () (case (let ((a a)) a) (x ", "(case 1 (1 x) (_ v#))"
		checkGreat(t, x+"(case "+g.x+" (_ (case "+is+" (_ 1)))))))", g)
		checkGreat(t, x+"(case "+is+" (_ "+g.x+")))))", g)
		checkGreat(t, x+"(let ((a (case "+is+" (_ 1))) (b "+g.x+")) a))))", g)
		checkGreat(t, x+"(let ((a (fn (q) "+g.x+")) (b (case "+is+" (_ 1)))) a))))", g)
		checkGreat(t, x+"(let ((u (fn (q) "+g.x+"))) (case "+is+" (_ 1))))))", g)
	}
}

// TestGreatDefinitions has a definition's own type be the greatest, and types that grow by another definition of the group.
func TestGreatDefinitions(t *testing.T) {
	for def, g := range map[string]great{
		"(def it (x) v#)": {"", 1, 2}, "(def it (x y z) v#)": {"", 1, 6}, "(def it (a b c d e f g h) v#)": {"", 1, 16}, "(def it () (L v#))": {"", 1, 1}, "(def it () (P v# v#))": {"", 2, 1}, "(def it () (T v# v# v#))": {"", 3, 1},
		"(def it (x) (case (case 1 (1 x) (_ v#)) (_ 1)))": {"", 1, 2}, "(def it (x y) (case (case 1 (1 x) (2 y) (_ v#)) (_ 1)))": {"", 2, 3}, "(def it (x y) (case 1 (1 x) (2 y) (_ v#)))": {"", 3, 2},
		"(def it () (case other (_ (case (P other other) (_ 1))))) (def other () (case it (_ v#)))": {"", 2, 1},
		"(def it () (case (L (P other other)) (_ 1))) (def other () (case it (_ v#)))":              {"", 2, 2},
		"(def it () (case two (_ v#))) (def two () (case (T it it it) (_ it)))":                     {"", 3, 1},
		"(def it () (case two (_ (fn (x) v#)))) (def two () (case (it 1) (_ (P (it 2) (it 3)))))":   {"", 2, 1},
	} {
		checkGreat(t, def, g)
	}
}

// TestInstancesAlone: types of names of a let, and of definitions, are not greater because one of their instances is.
func TestInstancesAlone(t *testing.T) {
	for _, n := range []int{498, 499} {
		checkParts(t, "(def it () (let ((p (fn (x) (P x x)))) (case (P v# v#) (_ (P (p 1) (p True))))))", n, true)
		checkParts(t, "(def it () (case (P v# v#) (_ (let ((n (let ((a a)) a)) (m (fn (z) (T z z z)))) (T (m 1) n n)))))", n, true)
	}
	checkParts(t, "(def p (x) (T x x x)) (def q () (p v#))", 249, true)
	checkParts(t, "(def it () (case ((fn (p) (p v#)) (fn (x) (T x x x))) (_ 1)))", 250, false)
}

func count(x api.Type) int {
	n := 1
	for _, a := range x.Args {
		n += count(a)
	}
	return n
}
