package anf_test

import (
	"strconv"
	"strings"
	"testing"

	"reverie/api"
	"reverie/made"
	"reverie/show"
	"reverie/words"
)

// numbered is what came of a program, whose new names are A.1, A.2, .. in turn.
func numbered(p, q api.Program) api.Program {
	times := words.Times(p)
	names := map[string]string{}
	for _, n := range words.Bound(q) {
		if times[n] == 0 {
			names[n] = "A." + strconv.Itoa(len(names)+1)
		}
	}
	return made.Renamed(q, names)
}

// defs are the texts of a program's definitions, without those of head.
func defs(p api.Program) string {
	var list []string
	for _, d := range p.Defs[strings.Count(head, "(def "):] {
		list = append(list, show.Def(d))
	}
	return strings.Join(list, " ")
}

// checkTexts asks which definitions come of others.
func checkTexts(t *testing.T, table [][2]string) {
	t.Helper()
	for _, row := range table {
		p := named(t, head+row[0])
		checkAll(t, p)
		if got := defs(numbered(p, check(t, p))); got != row[1] {
			t.Errorf("%s became %s, not %s", row[0], got, row[1])
		}
	}
}

// checkBodies asks likewise of a definition's body, and of the same one in all places where expressions stand.
func checkBodies(t *testing.T, table [][2]string) {
	t.Helper()
	for _, row := range table {
		checkTexts(t, [][2]string{{"(def f (x) " + row[0] + ")", "(def f (x) " + row[1] + ")"}})
		for _, place := range []string{"(fn (y) @)", "(fn (y) (fn (z) @))", "(let ((y @)) x)", "(let ((y x)) @)", "(let ((y 1) (z @)) (+ y z))", "(case @ (_ x))", "(case x (A @) (_ 1))", "(case x ((C (B y) _) y) (z @))", "(+ @ x)", "(re @)", "(cpx 1 @)"} {
			checkTexts(t, [][2]string{{"(def f (x) " + strings.Replace(place, "@", row[0], 1) + ")", "(def f (x) " + strings.Replace(place, "@", row[1], 1) + ")"}})
		}
	}
}

// TestNamesStay has arguments that have names, or are numbers, and parts that need none.
func TestNamesStay(t *testing.T) {
	t.Parallel()
	for _, s := range []string{
		"1", "x", "g", "A", "(g x)", "(x x)", "(f g)", "(x 1)", "(x -1 x 2 g 999999999999999999 h)", "(f g h x g h x g h)", "(f 1 2 3 4 5 6 7 8)", "(B x)", "(B 1)", "(C x 7)", "(E 1 x 3 g 5 h 7 f)", "(+ 1 2)", "(* (+ x 1) (- (% x 2) (/ 3 4)))", "(+ A (fn (y) y))", "(= A (C x x))", "(re (cmul (cpx 1 x) (cadd x (cpx (im x) (< 1 2)))))",
		"(fn (y z) (x y z))", "(fn (x) (fn (y) (fn (z) A)))", "(let ((y 1)) (x y))", "(let ((y (x z)) (z (C x y)) (v A) (w (fn (x) x))) (C y z))", "(let ((x A)) (let ((y x)) (B y)))", "(case x (A x) ((B y) (x y)) ((C 1 (C y z)) (C y z)) (-3 A) (_ (g x)))", "(case (x x) (A 1) (y (x y)))", "(case A (A A) (_ (B 1)))", "(case (C x x) ((C y z) (y z)) (_ x))",
		"(case (case (fn (y) (y x)) (A x) (y y)) (_ (let ((z A)) z)))", "(+ (case x (1 (x 2)) (_ (B x))) (let ((y (B x))) (y y)))",
	} {
		checkBodies(t, [][2]string{{s, s}})
	}
}

// TestApplications has such that apply, and are given, each kind of part, and such in each other.
func TestApplications(t *testing.T) {
	t.Parallel()
	checkBodies(t, [][2]string{
		{"(g (h 1))", "(let ((A.1 (h 1))) (g A.1))"}, {"((g 1) 2)", "(let ((A.1 (g 1))) (A.1 2))"}, {"((g 1) (h 2))", "(let ((A.1 (g 1)) (A.2 (h 2))) (A.1 A.2))"}, {"(g x (h x) 3 (h 4) x)", "(let ((A.1 (h x)) (A.2 (h 4))) (g x A.1 3 A.2 x))"}, {"(((x 1) 2) 3)", "(let ((A.1 (let ((A.2 (x 1))) (A.2 2)))) (A.1 3))"}, {"(x (x (x 1)))", "(let ((A.1 (let ((A.2 (x 1))) (x A.2)))) (x A.1))"}, {"((x (x 1)) (x (x 2)))", "(let ((A.1 (let ((A.3 (x 1))) (x A.3))) (A.2 (let ((A.4 (x 2))) (x A.4)))) (A.1 A.2))"},
		{"(x (x 1 (x 2)) 3 (x (x 4) 5))", "(let ((A.1 (let ((A.3 (x 2))) (x 1 A.3))) (A.2 (let ((A.4 (x 4))) (x A.4 5)))) (x A.1 3 A.2))"}, {"(g A)", "(let ((A.1 A)) (g A.1))"}, {"(g A x A)", "(let ((A.1 A) (A.2 A)) (g A.1 x A.2))"}, {"(g (B x) (C A x))", "(let ((A.1 (B x)) (A.2 (let ((A.3 A)) (C A.3 x)))) (g A.1 A.2))"}, {"(g (+ x 1) (re x))", "(let ((A.1 (+ x 1)) (A.2 (re x))) (g A.1 A.2))"}, {"(g (cmul x (cpx 1 2)) -5)", "(let ((A.1 (cmul x (cpx 1 2)))) (g A.1 -5))"}, {"((+ x 1) x)", "(let ((A.1 (+ x 1))) (A.1 x))"}, {"(g (+ (g A) 1))", "(let ((A.1 (+ (let ((A.2 A)) (g A.2)) 1))) (g A.1))"},
		{"(g (fn (y) y))", "(let ((A.1 (fn (y) y))) (g A.1))"}, {"((fn (y) y) x)", "(let ((A.1 (fn (y) y))) (A.1 x))"}, {"((fn (y) (y (h x))) (h 2))", "(let ((A.1 (fn (y) (let ((A.3 (h x))) (y A.3)))) (A.2 (h 2))) (A.1 A.2))"}, {"((fn (y) ((fn (z) (z A)) y)) x)", "(let ((A.1 (fn (y) (let ((A.2 (fn (z) (let ((A.3 A)) (z A.3))))) (A.2 y))))) (A.1 x))"}, {"(g (let ((y x)) y))", "(let ((A.1 (let ((y x)) y))) (g A.1))"}, {"((let ((y 1)) (x y)) x)", "(let ((A.1 (let ((y 1)) (x y)))) (A.1 x))"},
		{"(g (let ((y (g A)) (z (B A))) (y A)))", "(let ((A.1 (let ((y (let ((A.2 A)) (g A.2))) (z (let ((A.3 A)) (B A.3)))) (let ((A.4 A)) (y A.4))))) (g A.1))"}, {"(g (case x (A 1) (_ 2)))", "(let ((A.1 (case x (A 1) (_ 2)))) (g A.1))"}, {"((case x (A g) (y y)) x 1)", "(let ((A.1 (case x (A g) (y y)))) (A.1 x 1))"}, {"((case (g A) ((B y) (y A)) (_ (x A))) x)", "(let ((A.1 (case (let ((A.2 A)) (g A.2)) ((B y) (let ((A.3 A)) (y A.3))) (_ (let ((A.4 A)) (x A.4)))))) (A.1 x))"}, {"(f (g 1) 2)", "(let ((A.1 (g 1))) (f A.1 2))"},
		{"((h 0) (h 1) (h 2) (h 3) (h 4) (h 5) (h 6) (h 7) (h 8))", "(let ((A.1 (h 0)) (A.2 (h 1)) (A.3 (h 2)) (A.4 (h 3)) (A.5 (h 4)) (A.6 (h 5)) (A.7 (h 6)) (A.8 (h 7)) (A.9 (h 8))) (A.1 A.2 A.3 A.4 A.5 A.6 A.7 A.8 A.9))"}, {"(g A (B x) (+ 1 2) (fn (y) y) (let ((y 1)) y) (case x (_ 3)) (h 4) x)", "(let ((A.1 A) (A.2 (B x)) (A.3 (+ 1 2)) (A.4 (fn (y) y)) (A.5 (let ((y 1)) y)) (A.6 (case x (_ 3))) (A.7 (h 4))) (g A.1 A.2 A.3 A.4 A.5 A.6 A.7 x))"}, {"(g 1 2 3 4 5 6 7 (h 8))", "(let ((A.1 (h 8))) (g 1 2 3 4 5 6 7 A.1))"}, {"((g 1) 2 3 4 5 6 7 8 9)", "(let ((A.1 (g 1))) (A.1 2 3 4 5 6 7 8 9))"},
		{"(g (h 1) x (h 2) x (h 3) x (h 4) x)", "(let ((A.1 (h 1)) (A.2 (h 2)) (A.3 (h 3)) (A.4 (h 4))) (g A.1 x A.2 x A.3 x A.4 x))"},
	})
}

// TestConstructors has such of each kind of part, in each other, and in all that is no application.
func TestConstructors(t *testing.T) {
	t.Parallel()
	checkBodies(t, [][2]string{
		{"(B A)", "(let ((A.1 A)) (B A.1))"}, {"(B (B A))", "(let ((A.1 (let ((A.2 A)) (B A.2)))) (B A.1))"}, {"(B (B x))", "(let ((A.1 (B x))) (B A.1))"}, {"(C x (B x))", "(let ((A.1 (B x))) (C x A.1))"}, {"(C (B x) x)", "(let ((A.1 (B x))) (C A.1 x))"}, {"(C (B 1) (B 2))", "(let ((A.1 (B 1)) (A.2 (B 2))) (C A.1 A.2))"}, {"(C (C 1 A) (C A 2))", "(let ((A.1 (let ((A.3 A)) (C 1 A.3))) (A.2 (let ((A.4 A)) (C A.4 2)))) (C A.1 A.2))"}, {"(C 1 (C 2 (C 3 A)))", "(let ((A.1 (let ((A.2 (let ((A.3 A)) (C 3 A.3)))) (C 2 A.2)))) (C 1 A.1))"},
		{"(C (C (C A 1) 2) 3)", "(let ((A.1 (let ((A.2 (let ((A.3 A)) (C A.3 1)))) (C A.2 2)))) (C A.1 3))"}, {"(B (g x))", "(let ((A.1 (g x))) (B A.1))"}, {"(B (g A))", "(let ((A.1 (let ((A.2 A)) (g A.2)))) (B A.1))"}, {"(C (+ 1 2) (* x (+ x 1)))", "(let ((A.1 (+ 1 2)) (A.2 (* x (+ x 1)))) (C A.1 A.2))"}, {"(B (fn (y) (B (y 1))))", "(let ((A.1 (fn (y) (let ((A.2 (y 1))) (B A.2))))) (B A.1))"}, {"(B (let ((y (B A))) y))", "(let ((A.1 (let ((y (let ((A.2 A)) (B A.2)))) y))) (B A.1))"}, {"(C (case x (A 1) ((B y) y) (_ (B A))) x)", "(let ((A.1 (case x (A 1) ((B y) y) (_ (let ((A.2 A)) (B A.2)))))) (C A.1 x))"},
		{"(E A A A A A A A A)", "(let ((A.1 A) (A.2 A) (A.3 A) (A.4 A) (A.5 A) (A.6 A) (A.7 A) (A.8 A)) (E A.1 A.2 A.3 A.4 A.5 A.6 A.7 A.8))"}, {"(E 1 A x (h 1) -2 (+ 1 2) g (B h))", "(let ((A.1 A) (A.2 (h 1)) (A.3 (+ 1 2)) (A.4 (B h))) (E 1 A.1 x A.2 -2 A.3 g A.4))"}, {"(E (E 1 2 3 4 5 6 7 A) x x x x x x (E A 2 3 4 5 6 7 8))", "(let ((A.1 (let ((A.3 A)) (E 1 2 3 4 5 6 7 A.3))) (A.2 (let ((A.4 A)) (E A.4 2 3 4 5 6 7 8)))) (E A.1 x x x x x x A.2))"},
	})
}

// TestOperations has such, whose arguments need no names, of applications and constructors without names.
func TestOperations(t *testing.T) {
	t.Parallel()
	checkBodies(t, [][2]string{
		{"(+ (g A) 1)", "(+ (let ((A.1 A)) (g A.1)) 1)"}, {"(+ (g (h 1)) (g (h 2)))", "(+ (let ((A.1 (h 1))) (g A.1)) (let ((A.2 (h 2))) (g A.2)))"}, {"(- (* (g (h 1)) 2) ((g 3) 4))", "(- (* (let ((A.1 (h 1))) (g A.1)) 2) (let ((A.2 (g 3))) (A.2 4)))"}, {"(= (B A) (re (g A)))", "(= (let ((A.1 A)) (B A.1)) (re (let ((A.2 A)) (g A.2))))"}, {"(im (cmul (cadd (g A) x) (cpx ((g 1) 2) 3)))", "(im (cmul (cadd (let ((A.1 A)) (g A.1)) x) (cpx (let ((A.2 (g 1))) (A.2 2)) 3)))"},
	})
}

// TestPlaces has what stands in fn, let, case, and behind patterns, and stays there.
func TestPlaces(t *testing.T) {
	t.Parallel()
	checkBodies(t, [][2]string{
		{"(fn (y z) (y (z 1)))", "(fn (y z) (let ((A.1 (z 1))) (y A.1)))"}, {"(fn (y) (fn (z) (y (z 1))))", "(fn (y) (fn (z) (let ((A.1 (z 1))) (y A.1))))"}, {"(fn (y) (y (fn (z) (y (z 1)))))", "(fn (y) (let ((A.1 (fn (z) (let ((A.2 (z 1))) (y A.2))))) (y A.1)))"}, {"(let ((y (g (h 1)))) (g (h y)))", "(let ((y (let ((A.1 (h 1))) (g A.1)))) (let ((A.2 (h y))) (g A.2)))"}, {"(let ((y (C z A)) (z (y (x z)))) (y (z 1)))", "(let ((y (let ((A.1 A)) (C z A.1))) (z (let ((A.2 (x z))) (y A.2)))) (let ((A.3 (z 1))) (y A.3)))"},
		{"(let ((y (let ((z (B A))) (B z)))) (let ((z (B y))) (B (B z))))", "(let ((y (let ((z (let ((A.1 A)) (B A.1)))) (B z)))) (let ((z (B y))) (let ((A.2 (B z))) (B A.2))))"}, {"(case (g A) (A (h A)) ((B y) (y A)) ((C (B y) z) (y (z A))) (1 (B A)) (y (B (B y))) (_ ((x A) A)))", "(case (let ((A.1 A)) (g A.1)) (A (let ((A.2 A)) (h A.2))) ((B y) (let ((A.3 A)) (y A.3))) ((C (B y) z) (let ((A.4 (let ((A.5 A)) (z A.5)))) (y A.4))) (1 (let ((A.6 A)) (B A.6))) (y (let ((A.7 (B y))) (B A.7))) (_ (let ((A.8 (let ((A.10 A)) (x A.10))) (A.9 A)) (A.8 A.9))))"},
		{"(case (C (B x) A) ((C y z) (C (y z) (z y))))", "(case (let ((A.1 (B x)) (A.2 A)) (C A.1 A.2)) ((C y z) (let ((A.3 (y z)) (A.4 (z y))) (C A.3 A.4))))"}, {"(case (case (x A) (A (x A))) (A (case (x A) (_ (x A)))))", "(case (case (let ((A.1 A)) (x A.1)) (A (let ((A.2 A)) (x A.2)))) (A (case (let ((A.3 A)) (x A.3)) (_ (let ((A.4 A)) (x A.4))))))"},
	})
}

// TestDefinitions has several, with parameters and without, that have as many parts without names as another one.
func TestDefinitions(t *testing.T) {
	t.Parallel()
	checkTexts(t, [][2]string{
		{"(def f () (g A)) (def k () (g A))", "(def f () (let ((A.1 A)) (g A.1))) (def k () (let ((A.2 A)) (g A.2)))"},
		{"(def f (x y) (x (y x))) (def k () 1) (def l (x) x) (def m (y x) (x (y x) (f (k l) 2)))", "(def f (x y) (let ((A.1 (y x))) (x A.1))) (def k () 1) (def l (x) x) (def m (y x) (let ((A.2 (y x)) (A.3 (let ((A.4 (k l))) (f A.4 2)))) (x A.2 A.3)))"},
		{"(def f (s t u v w x y z) (s (t (u (v (w (x (y (z 1)))))))))", "(def f (s t u v w x y z) (let ((A.1 (let ((A.2 (let ((A.3 (let ((A.4 (let ((A.5 (let ((A.6 (let ((A.7 (z 1))) (y A.7)))) (x A.6)))) (w A.5)))) (v A.4)))) (u A.3)))) (t A.2)))) (s A.1)))"},
	})
}

// TestExample is the document's.
func TestExample(t *testing.T) {
	p := named(t, "(def f (x y) x) (def g (x) x) (def main () (f (g 1) 2))")
	x := check(t, p).Defs[2].Body
	if got, want := show.Expr(x), strings.ReplaceAll("(let ((A.1 (g 1))) (f A.1 2))", "A.1", x.Names[0]); got != want {
		t.Errorf("%s, not %s", got, want)
	}
}
