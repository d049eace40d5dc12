package infer

import (
	"fmt"
	"slices"
	"strings"
	"testing"

	"reverie/api"
)

// TestDeepPrograms has lists in as many as they may stand in.
func TestDeepPrograms(t *testing.T) {
	deep := func(open, in, close string, times int) string { return each(open, times) + in + shut(close, times) }
	const lists, number = "(data L (a) (L a)) ", "(def main () 1) "
	checkTypes(t, number+"(def it () "+deep("(fn (a) ", "a", ")", 38)+")", "Int", deep("(-> t$ ", "t37", ")", 38))
	checkTypes(t, number+"(def it () "+deep("(fn (a b c d e f g h) ", "1", ")", 38)+")", "Int", deep("(-> t$ ", "Int", ")", 38*8))
	checkTypes(t, "(def main () "+deep("(let ((a a)) ", "a", ")", 37)+")", "t0")
	checkTypes(t, "(def main () "+deep("(let ((a ", "a", ")) a)", 12)+")", "t0")
	checkTypes(t, "(def main () "+deep("(case 1 (a ", "a", "))", 19)+")", "Int")
	checkTypes(t, "(def main () "+deep("(+ 1 ", "2", ")", 38)+")", "Int")
	checkNone(t, "|(def main () "+deep("(+ 1 ", "True", ")", 38)+")")
	checkTypes(t, number+"(def it (f x) "+deep("(f ", "x", ")", 38)+")", "Int", "(-> (-> t0 t0) (-> t0 t0))")
	checkTypes(t, number+"(def it (f) "+deep("(", "f", " 1)", 38)+")", "Int", "(-> "+deep("(-> Int ", "t0", ")", 38)+" t0)")
	checkTypes(t, lists+"(def main () "+deep("(L ", "1", ")", 38)+")", deep("(L ", "Int", ")", 38))
	checkTypes(t, lists+number+"(def it (x) (case x ("+deep("(L ", "y", ")", 36)+" y)))", "Int", "(-> "+deep("(L ", "t0", ")", 36)+" t0)")
	checkTypes(t, lists+"(data D () (D "+deep("(L ", "Int", ")", 37)+")) "+number+"(def it (x) (case x ((D y) y)))", "Int", "(-> D "+deep("(L ", "Int", ")", 37)+")")
	checkTypes(t, lists+"(data D () (C) (D "+deep("(L ", "Int", ")", 37)+")) (def main () C)", "D")
	checkNone(t, lists+"(data D () (C) (D "+deep("(L ", "(-> Int Int)", ")", 36)+")) |(def main () C)")
}

// checkDense asks for an answer, that comes soon.
func checkDense(t *testing.T, s, want string) {
	t.Helper()
	if got := soonAnswer(t, s); got != want {
		t.Errorf("%s: %.500s, not %s", s, got, want)
	}
}

// writtenOf is a type, as it is written, of so many parts, in few bytes.
func writtenOf(parts int) string {
	switch {
	case parts == 1:
		return "I"
	case parts < 9:
		return "(L " + writtenOf(parts-1) + ")"
	}
	text := "(E"
	for i := range 8 {
		text += " " + writtenOf((parts-1+i)/8)
	}
	return text + ")"
}

const dense = "(data E (a b c d e f g h) (E a b c d e f g h)) (data L (a) (L a)) (data I () (I)) "

// TestGreatFields has constructors with as many parts in a field as a type may have, and one more: they may not be used then.
func TestGreatFields(t *testing.T) {
	for _, n := range []int{999, 1000, 1001} {
		s := dense + "(data F () (F " + writtenOf(n) + ") (G)) (def main () G) "
		checkDense(t, s, "F")
		for _, x := range []string{"(case G ((F _) 1) (_ 2))", "(case G ((F x) 1))", "(case G ((F (E a _ b _ c _ d _)) 1))", "(let ((x x)) (case (F x) (_ 1)))", "(let ((f (fn (g) 1)) (x x)) (f (F x)))"} {
			want := "F; Int"
			if n > 1000 {
				want = fmt.Sprint("none at ", len(s))
			}
			checkDense(t, s+"(def it () "+x+")", want)
		}
	}
	inside := strings.Replace(writtenOf(1000), "I))", "(-> F F)))", 1)
	s := dense + "(data F () (F " + inside + ") (G)) (def it () G) "
	checkDense(t, s+"(def main () G)", fmt.Sprint("none at ", len(s)))
}

// TestManyConstructors has a type with as many as there may be, in fields of which it stands.
func TestManyConstructors(t *testing.T) {
	checkDense(t, "(data T (a) (N)"+each("(C$ a (T a))", 99)+") (def main () (C98 1 (C0 2 N)))", "(T Int)")
	checkDense(t, "(def main () (C98 1 (C0 True N))) (data T (a) (N)"+each("(C$ a (T a))", 99)+")", "none at 0")
}

// TestManyNames has a pattern of some 500 names.
func TestManyNames(t *testing.T) {
	pat, typ := "", ""
	for i := range 8 {
		pat += " (E"
		typ += " (E"
		for j := range 8 {
			pat += " (E"
			typ += " (E"
			for k := range 8 {
				pat += fmt.Sprint(" n", i*64+j*8+k)
				typ += fmt.Sprint(" t", i*64+j*8+k)
			}
			pat += ")"
			typ += ")"
		}
		pat += ")"
		typ += ")"
	}
	s := dense + "(def main () 1) (def it (x) (case x ((E" + pat + ") "
	checkDense(t, s+"(n511 n0))))", "Int; (-> (E"+strings.Replace(typ, " t511)", " (-> t0 t511))", 1)+") t511)")
	checkDense(t, s+"(let ((y n7)) (E y y y y x y n511 n0)))))", fmt.Sprint("none at ", strings.Index(s, "(def it")))
	checkDense(t, s+"(let ((y n7) (z (fn (u) n8))) (E y y (z 1) y (z y) y n511 n0)))))", "Int; (-> (E"+typ+") (E t7 t7 t8 t7 t8 t7 t511 t0))")
}

// wideDefs are definitions, of which the last one, e, has a type of 497 parts, 232 of which are variables, and h asks that two things have one type.
const wideDefs = "(data N (a) (N)) (data T (a b c d e f g h) (T a b c d e f g h)) (def a () N) (def b () (T a a a a a a a a)) (def c () (T b b b b b b b b)) (def e () (T c c c b b b b b)) (def k (x) 1) (def h (x y) (k (case 1 (1 x) (_ y)))) (def main () 1) "

// TestManyUses uses a great type with many variables as often as a text can, each time with other ones, by themselves and made one.
func TestManyUses(t *testing.T) {
	t.Parallel()
	for _, part := range []string{"(k e)", "(h e e)", "(let ((x e)) 1)", "(let ((x e)) (k x))", "(case e ((T x _ _ _ _ _ _ y) (k x)))"} {
		times := (api.MaxSource - len(wideDefs) - 200) / (len(part) + 5)
		list := slices.Repeat([]string{part}, times)
		if got := soonAnswer(t, wideDefs+"(def it () "+all(list)+")"); !strings.HasSuffix(got, "; Int; Int") {
			t.Errorf("%d times %s: %s", times, part, got)
		}
		if got := soonAnswer(t, wideDefs+"(def it () "+all(append(list, "(+ e 1)"))+")"); got != fmt.Sprint("none at ", len(wideDefs)) {
			t.Errorf("%d times %s, and a wrong one: %s", times, part, got)
		}
	}
}

// TestManyLets has many lets within many names, each of which has a great type with variables, none of which may stand for any type.
func TestManyLets(t *testing.T) {
	t.Parallel()
	for _, n := range []int{8, 40, 80, 104} {
		var names, list []string
		for i := range n {
			names = append(names, fmt.Sprintf("n%d", i))
			list = append(list, fmt.Sprintf("(h n%d e)", i))
		}
		for i := range (3500 - n*17) / 27 {
			list = append(list, fmt.Sprintf("(let ((x n%d)(y b)) 1)", i%n))
		}
		s := wideDefs + "(def it () " + functionOf(names, all(list)) + ")"
		if got := soonAnswer(t, s); got != fmt.Sprint("none at ", len(wideDefs)) { // as the function's own type is too great
			t.Errorf("%s: %s", s, got)
		}
	}
}

// TestManyInOne makes many names one, each with the next one, and with the first one, and one of them a number.
func TestManyInOne(t *testing.T) {
	const n = 96
	for _, step := range []func(i int) int{func(i int) int { return i + 1 }, func(int) int { return n - 1 }, func(i int) int { return min(n-1, i+1+i*5%7) }} {
		for _, last := range []string{"1", "(+ n7 1)", "(case n7 (True 1))", "(+ n7 (case n90 (True 1)))"} {
			var names, list []string
			for i := range n {
				names = append(names, fmt.Sprint("n", i))
			}
			for i := range n - 1 {
				list = append(list, fmt.Sprintf("(h n%d n%d)", i, step(i)))
			}
			s := wideDefs + "(def it () " + functionOf(names, all(append(list, last))) + ")"
			got := soonAnswer(t, s)
			got = got[strings.LastIndex(got, ";")+1:]
			one := map[string]string{"1": "t0", "(+ n7 1)": "Int", "(case n7 (True 1))": "Bool"}[last]
			if want := " " + shut("(-> "+one+" ", n) + "Int" + shut(")", n); one != "" && got != want || one == "" && !strings.HasPrefix(got, "none") {
				t.Errorf("%s: %s", s, got)
			}
		}
	}
}
