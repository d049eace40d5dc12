package lift_test

import (
	"strconv"
	"strings"
	"testing"

	"reverie/api"
	"reverie/made"
	"reverie/show"
)

// inTurn is what came of a program, whose new names are F.1, F.2, .. in the order in which they are used, and whose new definitions stand in that order, too.
func inTurn(p, q api.Program) api.Program {
	q = made.Copied(q)
	news := map[string]api.Def{}
	for _, d := range q.Defs[len(p.Defs):] {
		news[d.Name] = d
	}
	names := map[string]string{}
	q.Defs = q.Defs[:len(p.Defs):len(p.Defs)]
	for i := 0; i < len(q.Defs); i++ {
		made.Each(q.Defs[i].Body, func(x api.Expr) {
			if d, ok := news[x.Name]; ok && names[x.Name] == "" {
				names[x.Name] = "F." + strconv.Itoa(len(names)+1)
				d.Name = names[x.Name]
				q.Defs = append(q.Defs, d)
			}
		}, func(api.Pat) {})
	}
	return made.Renamed(q, names)
}

// defs are the texts of a program's definitions, without those of head.
func defs(p api.Program) string {
	var list []string
	for _, d := range p.Defs[strings.Count(head, "(def "):] {
		list = append(list, show.Def(d))
	}
	return strings.Join(list, " ")
}

// checkTexts asks which definitions come of others.
func checkTexts(t *testing.T, table [][2]string) {
	t.Helper()
	for _, row := range table {
		p := named(t, head+row[0])
		checkAll(t, p)
		if got := defs(inTurn(p, check(t, p))); got != row[1] {
			t.Errorf("%s became\n%s, not\n%s", row[0], got, row[1])
		}
	}
}

// checkBodies asks what comes of a definition's body, and which new definitions; and of the same one in all places where expressions stand.
func checkBodies(t *testing.T, table [][3]string) {
	t.Helper()
	for _, row := range table {
		for _, place := range []string{"@", "(let ((u @)) x)", "(let ((u x)) @)", "(let ((u 1) (v @)) (+ u v))", "(case @ (_ x))", "(case x (A @) (_ 1))", "(case x ((C (B u) _) u) (v @))", "(+ @ x)", "(re @)", "(cpx 1 @)", "(g @)", "(@ x)", "(x 1 @ 2)", "(C @ x)", "(E 1 2 3 4 5 6 7 (B @))"} {
			in := func(s string) string { return "(def f (x) " + strings.Replace(place, "@", s, 1) + ")" }
			want := in(row[1])
			if row[2] != "" {
				want += " " + row[2]
			}
			checkTexts(t, [][2]string{{in(row[0]), want}})
		}
	}
}

// TestNothingToLift has programs without functions, which stay.
func TestNothingToLift(t *testing.T) {
	t.Parallel()
	for _, s := range []string{"1", "x", "g", "(B A)", "(g x)", "(x 1 (g x) A)", "(E 1 x 3 g 5 h 7 f)", "(* (+ x 1) (- (% x 2) (/ 3 4)))", "(let ((y 1)) (x y))", "(let ((y (x z)) (z (C x y))) (C y z))", "(case x (A x) ((B y) (x y)) ((C 1 (C y z)) (C y z)) (-3 A) (_ (g x)))", "(case (case (g A) ((B y) y) (_ x)) (y (let ((z y)) (z y))))"} {
		checkBodies(t, [][3]string{{s, s, ""}})
	}
}

// TestFreeNames has functions without free names, with one, with many; with such as definitions have, and such as are hidden by nearer ones.
func TestFreeNames(t *testing.T) {
	t.Parallel()
	checkBodies(t, [][3]string{
		{"(fn (y) y)", "F.1", "(def F.1 (y) y)"}, {"(fn (y) 1)", "F.1", "(def F.1 (y) 1)"}, {"(fn (y z) (z y))", "F.1", "(def F.1 (y z) (z y))"}, {"(fn (y) A)", "F.1", "(def F.1 (y) A)"}, {"(fn (y) g)", "F.1", "(def F.1 (y) g)"}, {"(fn (y) (g y h f main))", "F.1", "(def F.1 (y) (g y h f main))"}, {"(fn (a b c d e i j k) (k j i e d c b a))", "F.1", "(def F.1 (a b c d e i j k) (k j i e d c b a))"}, {"(fn (y) (let ((z y)) (case z ((B w) w) (v (v y)))))", "F.1", "(def F.1 (y) (let ((z y)) (case z ((B w) w) (v (v y)))))"},
		{"(fn (y) x)", "(F.1 x)", "(def F.1 (x y) x)"}, {"(fn (y) (x y))", "(F.1 x)", "(def F.1 (x y) (x y))"}, {"(fn (y) (y x))", "(F.1 x)", "(def F.1 (x y) (y x))"}, {"(fn (y) (+ x (* y x)))", "(F.1 x)", "(def F.1 (x y) (+ x (* y x)))"}, {"(fn (y) (g x h x))", "(F.1 x)", "(def F.1 (x y) (g x h x))"}, {"(fn (y z) (C x y))", "(F.1 x)", "(def F.1 (x y z) (C x y))"}, {"(fn (a b c d e i j k) (k x))", "(F.1 x)", "(def F.1 (x a b c d e i j k) (k x))"}, {"(fn (y) (let ((z (x y))) (z x)))", "(F.1 x)", "(def F.1 (x y) (let ((z (x y))) (z x)))"}, {"(fn (y) (case y ((B z) (z x)) (_ y)))", "(F.1 x)", "(def F.1 (x y) (case y ((B z) (z x)) (_ y)))"},
		{"(fn (y) (case x (x (x y))))", "(F.1 x)", "(def F.1 (x y) (case x (x (x y))))"}, {"(fn (y) (let ((z 1) (x y)) (x z)))", "F.1", "(def F.1 (y) (let ((z 1) (x y)) (x z)))"}, {"(fn (x) x)", "F.1", "(def F.1 (x) x)"}, {"(fn (y x) (x y))", "F.1", "(def F.1 (y x) (x y))"}, {"(fn (y) (case y ((C x z) (x z)) (x x)))", "F.1", "(def F.1 (y) (case y ((C x z) (x z)) (x x)))"}, {"(fn (g) (g x h))", "(F.1 x)", "(def F.1 (x g) (g x h))"}, {"(fn (f h) (f (h g)))", "F.1", "(def F.1 (f h) (f (h g)))"}, {"(fn (y) (let ((g y)) (g x)))", "(F.1 x)", "(def F.1 (x y) (let ((g y)) (g x)))"},
		{"(let ((a 1)) (fn (y) (x a y)))", "(let ((a 1)) (F.1 x a))", "(def F.1 (x a y) (x a y))"}, {"(let ((a 1)) (fn (y) (a x y)))", "(let ((a 1)) (F.1 a x))", "(def F.1 (a x y) (a x y))"}, {"(let ((a 1) (b 2)) (fn (y) (g b (b a) (y x a))))", "(let ((a 1) (b 2)) (F.1 b a x))", "(def F.1 (b a x y) (g b (b a) (y x a)))"}, {"(let ((a 1) (b 2) (c 3)) (fn (y) (let ((z c) (w b)) (a x))))", "(let ((a 1) (b 2) (c 3)) (F.1 c b a x))", "(def F.1 (c b a x y) (let ((z c) (w b)) (a x)))"}, {"(let ((a 1) (b 2) (c 3)) (fn (y) (case c ((B b) (b a)) (_ b))))", "(let ((a 1) (b 2) (c 3)) (F.1 c a b))", "(def F.1 (c a b y) (case c ((B b) (b a)) (_ b)))"},
		{"(case x ((C a (C b c)) (fn (y) (c y b a))) (_ x))", "(case x ((C a (C b c)) (F.1 c b a)) (_ x))", "(def F.1 (c b a y) (c y b a))"}, {"(case x ((E a b c d e i j k) (fn (l m n o p q r s) (E s a r b q c p (E d o e n i m j (E l k x x x x x x))))))", "(case x ((E a b c d e i j k) (F.1 a b c d e i j k x)))", "(def F.1 (a b c d e i j k x l m n o p q r s) (E s a r b q c p (E d o e n i m j (E l k x x x x x x))))"}, {"(case x ((E a b c d e i j k) (case a ((E l m n o p q r s) (fn (y) ((s r q p o n m l k) (j i e d c b a x y)))))))", "(case x ((E a b c d e i j k) (case a ((E l m n o p q r s) (F.1 s r q p o n m l k j i e d c b a x)))))", "(def F.1 (s r q p o n m l k j i e d c b a x y) ((s r q p o n m l k) (j i e d c b a x y)))"},
	})
}

// TestInEachOther has functions in functions, in what these are applied to, and next to each other.
func TestInEachOther(t *testing.T) {
	t.Parallel()
	checkBodies(t, [][3]string{
		{"(fn (y) (fn (z) z))", "F.1", "(def F.1 (y) F.2) (def F.2 (z) z)"}, {"(fn (y) (fn (z) y))", "F.1", "(def F.1 (y) (F.2 y)) (def F.2 (y z) y)"}, {"(fn (y) (fn (z) x))", "(F.1 x)", "(def F.1 (x y) (F.2 x)) (def F.2 (x z) x)"}, {"(fn (y) (fn (z) (z y x)))", "(F.1 x)", "(def F.1 (x y) (F.2 y x)) (def F.2 (y x z) (z y x))"}, {"(fn (y) (fn (y) y))", "F.1", "(def F.1 (y) F.2) (def F.2 (y) y)"}, {"(fn (y) (fn (x) (x y)))", "F.1", "(def F.1 (y) (F.2 y)) (def F.2 (y x) (x y))"}, {"(fn (x) (fn (y) (x y)))", "F.1", "(def F.1 (x) (F.2 x)) (def F.2 (x y) (x y))"}, {"(fn (y) (x (fn (x) (x y))))", "(F.1 x)", "(def F.1 (x y) (x (F.2 y))) (def F.2 (y x) (x y))"},
		{"(fn (y) (fn (z) (fn (w) (x y z w))))", "(F.1 x)", "(def F.1 (x y) (F.2 x y)) (def F.2 (x y z) (F.3 x y z)) (def F.3 (x y z w) (x y z w))"}, {"(fn (y) (fn (z) (fn (w) (w x))))", "(F.1 x)", "(def F.1 (x y) (F.2 x)) (def F.2 (x z) (F.3 x)) (def F.3 (x w) (w x))"}, {"(fn (y) (fn (z) (fn (w) (z w y))))", "F.1", "(def F.1 (y) (F.2 y)) (def F.2 (y z) (F.3 z y)) (def F.3 (z y w) (z w y))"}, {"(fn (y) ((fn (z) (z y)) (fn (z) (x z))))", "(F.1 x)", "(def F.1 (x y) ((F.2 y) (F.3 x))) (def F.2 (y z) (z y)) (def F.3 (x z) (x z))"}, {"(fn (y) (C y (fn (z) (z (fn (y) (y x))))))", "(F.1 x)", "(def F.1 (x y) (C y (F.2 x))) (def F.2 (x z) (z (F.3 x))) (def F.3 (x y) (y x))"},
		{"((fn (y) y) (fn (y) x))", "(F.1 (F.2 x))", "(def F.1 (y) y) (def F.2 (x y) x)"}, {"((fn (y) (x y)) (fn (y) y) x (fn (y) y))", "((F.1 x) F.2 x F.3)", "(def F.1 (x y) (x y)) (def F.2 (y) y) (def F.3 (y) y)"}, {"(C (fn (y) y) (fn (y) y))", "(C F.1 F.2)", "(def F.1 (y) y) (def F.2 (y) y)"}, {"(+ (fn (y) (+ x y)) (fn (y) (+ y x)))", "(+ (F.1 x) (F.2 x))", "(def F.1 (x y) (+ x y)) (def F.2 (x y) (+ y x))"}, {"((fn (a) (fn (b) (a b x))) (fn (b) (fn (a) (x b a))))", "((F.1 x) (F.2 x))", "(def F.1 (x a) (F.3 a x)) (def F.2 (x b) (F.4 x b)) (def F.3 (a x b) (a b x)) (def F.4 (x b a) (x b a))"},
	})
}

// TestPlaces has functions that names of lets are for, that may use them, and such in all that a case has.
func TestPlaces(t *testing.T) {
	t.Parallel()
	checkBodies(t, [][3]string{
		{"(let ((r (fn (y) (r y)))) (r x))", "(let ((r (F.1 r))) (r x))", "(def F.1 (r y) (r y))"}, {"(let ((r (fn (y) (r (x y))))) r)", "(let ((r (F.1 r x))) r)", "(def F.1 (r x y) (r (x y)))"}, {"(let ((r (fn (y) (s y))) (s (fn (y) (r (s y))))) (r s))", "(let ((r (F.1 s)) (s (F.2 r s))) (r s))", "(def F.1 (s y) (s y)) (def F.2 (r s y) (r (s y)))"}, {"(let ((r (fn (y) (fn (z) (r z y))))) (fn (y) (r y)))", "(let ((r (F.1 r))) (F.2 r))", "(def F.1 (r y) (F.3 r y)) (def F.2 (r y) (r y)) (def F.3 (r y z) (r z y))"}, {"(let ((r (B (fn (y) r)))) r)", "(let ((r (B (F.1 r)))) r)", "(def F.1 (r y) r)"}, {"(let ((r (let ((s (fn (r) (s r)))) (s r)))) r)", "(let ((r (let ((s (F.1 s))) (s r)))) r)", "(def F.1 (s r) (s r))"},
		{"(let ((x (fn (y) (x y)))) x)", "(let ((x (F.1 x))) x)", "(def F.1 (x y) (x y))"}, {"(case (fn (y) (x y)) (a (a x)))", "(case (F.1 x) (a (a x)))", "(def F.1 (x y) (x y))"}, {"(case x (A (fn (y) y)) ((B a) (fn (y) (a y))) ((C a _) (fn (a) (a x))) (a (fn (y) (x a))) (_ (fn (y) (fn (z) (x y)))))", "(case x (A F.1) ((B a) (F.2 a)) ((C a _) (F.3 x)) (a (F.4 x a)) (_ (F.5 x)))", "(def F.1 (y) y) (def F.2 (a y) (a y)) (def F.3 (x a) (a x)) (def F.4 (x a y) (x a)) (def F.5 (x y) (F.6 x y)) (def F.6 (x y z) (x y))"}, {"(case (case (fn (x) x) (x (fn (y) (x y)))) (y (case (fn (z) (y z)) (1 (fn (z) x)))))", "(case (case F.1 (x (F.2 x))) (y (case (F.3 y) (1 (F.4 x)))))", "(def F.1 (x) x) (def F.2 (x y) (x y)) (def F.3 (y z) (y z)) (def F.4 (x z) x)"},
		{"(fn (y) (case (fn (z) (y z)) ((B u) (fn (y) (u y x))) (v (let ((w (fn (y) (w v)))) (w y)))))", "(F.1 x)", "(def F.1 (x y) (case (F.2 y) ((B u) (F.3 u x)) (v (let ((w (F.4 w v))) (w y))))) (def F.2 (y z) (y z)) (def F.3 (u x y) (u y x)) (def F.4 (w v y) (w v))"},
	})
}

// TestDefinitions has such that are functions in whole, with parameters and without, ahead of those that they use and behind.
func TestDefinitions(t *testing.T) {
	t.Parallel()
	checkTexts(t, [][2]string{
		{"(def f () (fn (y) y))", "(def f () F.1) (def F.1 (y) y)"}, {"(def f () (fn (y) (f y)))", "(def f () F.1) (def F.1 (y) (f y))"}, {"(def f (x) (fn (y) (+ x y)))", "(def f (x) (F.1 x)) (def F.1 (x y) (+ x y))"}, {"(def f (x y) (fn (z) (y (f z))))", "(def f (x y) (F.1 y)) (def F.1 (y z) (y (f z)))"}, {"(def f () (fn (y) (k y))) (def k () (fn (y) (f y)))", "(def f () F.1) (def k () F.2) (def F.1 (y) (k y)) (def F.2 (y) (f y))"},
		{"(def f (x) (fn (y) (x y))) (def k () 1) (def l (x) x) (def m (y x) (x (fn (z) (y z (fn (w) (l x))))))", "(def f (x) (F.1 x)) (def k () 1) (def l (x) x) (def m (y x) (x (F.2 y x))) (def F.1 (x y) (x y)) (def F.2 (y x z) (y z (F.3 x))) (def F.3 (x w) (l x))"}, {"(def f (s t u v w x y z) (fn (a b c d e i j k) (s (t (u (v (w (x (y z)))))))))", "(def f (s t u v w x y z) (F.1 s t u v w x y z)) (def F.1 (s t u v w x y z a b c d e i j k) (s (t (u (v (w (x (y z))))))))"},
	})
}

// TestExample is the document's.
func TestExample(t *testing.T) {
	p := named(t, "(def f (x) (fn (y) (+ x y))) (def main () 1)")
	q := check(t, p)
	name := q.Defs[2].Name
	if got, want := show.Program(q), strings.ReplaceAll("(def f (x) (F.1 x))\n(def main () 1)\n(def F.1 (x y) (+ x y))\n", "F.1", name); got != want {
		t.Errorf("%s, not %s", got, want)
	}
}
