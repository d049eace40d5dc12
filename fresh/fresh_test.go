package fresh_test

import (
	"slices"
	"strings"
	"testing"

	"reverie/api"
	"reverie/made"
	"reverie/show"
	"reverie/words"
)

// head has no bound names.
const head = "(data T () (A) (B T) (C T T) (E T T T T T T T T)) (def g () A) (def h () g) (def main () g) "

// lettered is a program with the names a, b, .. in the place of those that are bound, in turn, as all of these are different.
func lettered(p api.Program) api.Program {
	letters := map[string]string{}
	for i, n := range words.Bound(p) {
		letters[n] = string(rune('a' + i))
	}
	return made.Renamed(p, letters)
}

// checkTexts asks which definitions come of others, letters standing for the names.
func checkTexts(t *testing.T, table [][2]string) {
	t.Helper()
	count := strings.Count(head, "(def ")
	for _, row := range table {
		p := named(t, head+row[0])
		checkAll(t, p)
		var list []string
		for _, d := range lettered(check(t, p)).Defs[count:] {
			list = append(list, show.Def(d))
		}
		if got := strings.Join(list, " "); got != row[1] {
			t.Errorf("%s became %s, not %s", row[0], got, row[1])
		}
	}
}

func TestParameters(t *testing.T) {
	checkTexts(t, [][2]string{
		{"(def f () 1)", "(def f () 1)"}, {"(def f (x) x)", "(def f (a) a)"}, {"(def f (x) 1)", "(def f (a) 1)"}, {"(def f (x y) (y x))", "(def f (a b) (b a))"}, {"(def f (x y) (x g y h f))", "(def f (a b) (a g b h f))"}, {"(def f (a' x x' x1) (x1 x' x a'))", "(def f (a b c d) (d c b a))"},
		{"(def f (s t u v w x y z) (z y x w v u t s s))", "(def f (a b c d e f g h) (h g f e d c b a a))"}, {"(def f (x) x) (def k (x) x)", "(def f (a) a) (def k (b) b)"}, {"(def f (x y) (x y)) (def k (y x) (x y))", "(def f (a b) (a b)) (def k (c d) (d c))"}, {"(def f (x) (k x)) (def k (x) (f x k))", "(def f (a) (k a)) (def k (b) (f b k))"},
	})
}

// TestKinds has each kind of expression and of pattern.
func TestKinds(t *testing.T) {
	checkTexts(t, [][2]string{
		{"(def f (x) -5)", "(def f (a) -5)"}, {"(def f (x) A)", "(def f (a) A)"}, {"(def f (x) (C x (B x)))", "(def f (a) (C a (B a)))"}, {"(def f (x) (+ x (* x 999999999999999999)))", "(def f (a) (+ a (* a 999999999999999999)))"}, {"(def f (x y) (cmul (cpx x y) (cadd (re x) (im y))))", "(def f (a b) (cmul (cpx a b) (cadd (re a) (im b))))"}, {"(def f (x y) (x y 1 y))", "(def f (a b) (a b 1 b))"},
		{"(def f () (fn (x) x))", "(def f () (fn (a) a))"}, {"(def f () (fn (x y z) (z y x)))", "(def f () (fn (a b c) (c b a)))"}, {"(def f () (let ((x 1)) x))", "(def f () (let ((a 1)) a))"}, {"(def f () (let ((x 1) (y 2)) (y x)))", "(def f () (let ((a 1) (b 2)) (b a)))"}, {"(def f () (case g (x x)))", "(def f () (case g (a a)))"}, {"(def f () (case g (_ 1)))", "(def f () (case g (_ 1)))"}, {"(def f () (case 1 (2 3) (-4 5)))", "(def f () (case 1 (2 3) (-4 5)))"},
		{"(def f () (case g (A 1) ((B x) x) ((C x y) (y x))))", "(def f () (case g (A 1) ((B a) a) ((C b c) (c b))))"}, {"(def f () (case g ((C (B x) (C 3 _)) x)))", "(def f () (case g ((C (B a) (C 3 _)) a)))"}, {"(def f () (case g ((E a b c d e f g h) (h g f e d c b a))))", "(def f () (case g ((E a b c d e f g h) (h g f e d c b a))))"}, {"(def f () (let ((h 1) (g 2) (f 3) (e 4) (d 5) (c 6) (b 7) (a 8)) (a b c d e f g h)))", "(def f () (let ((a 1) (b 2) (c 3) (d 4) (e 5) (f 6) (g 7) (h 8)) (h g f e d c b a)))"},
		{"(def f () (fn (h g f e d c b a) (a b c d e f g h)))", "(def f () (fn (a b c d e f g h) (h g f e d c b a)))"}, {"(def f () (case g ((C (C (C x y) z) (C w (B v))) (x y z w v))))", "(def f () (case g ((C (C (C a b) c) (C d (B e))) (a b c d e))))"},
	})
}

// TestHiding has names that hide others, of each kind and by each kind, used ahead of it, within, and behind it.
func TestHiding(t *testing.T) {
	checkTexts(t, [][2]string{
		{"(def f () (fn (x) (fn (x) x)))", "(def f () (fn (a) (fn (b) b)))"}, {"(def f (x) (x (fn (x) x) x))", "(def f (a) (a (fn (b) b) a))"}, {"(def f (x) (x (let ((x x)) x) x))", "(def f (a) (a (let ((b b)) b) a))"}, {"(def f (x) (x (case x (x x)) x))", "(def f (a) (a (case a (b b)) a))"}, {"(def f (x) (case x ((C x y) (x y)) (x x) (_ x)))", "(def f (a) (case a ((C b c) (b c)) (d d) (_ a)))"},
		{"(def f () (fn (x y) (x (fn (y x) (y x)) y)))", "(def f () (fn (a b) (a (fn (c d) (c d)) b)))"}, {"(def f () (fn (x y) (x (fn (y) (y x)) y)))", "(def f () (fn (a b) (a (fn (c) (c a)) b)))"}, {"(def f () (fn (x) (x (let ((x 1) (y x)) (x y)) x)))", "(def f () (fn (a) (a (let ((b 1) (c b)) (b c)) a)))"}, {"(def f () (fn (x) (x (case x ((B x) x) (y (x y))) x)))", "(def f () (fn (a) (a (case a ((B b) b) (c (a c))) a)))"},
		{"(def f () (let ((x 1)) (x (fn (x) x) x)))", "(def f () (let ((a 1)) (a (fn (b) b) a)))"}, {"(def f () (let ((x (fn (x) x)) (y (fn (y) (x y)))) (x y)))", "(def f () (let ((a (fn (c) c)) (b (fn (d) (a d)))) (a b)))"}, {"(def f () (let ((x (let ((x x)) x))) (let ((x x)) x)))", "(def f () (let ((a (let ((b b)) b))) (let ((c c)) c)))"}, {"(def f () (let ((x (case x (x x)))) (case x (x x))))", "(def f () (let ((a (case a (b b)))) (case a (c c))))"},
		{"(def f () (case g (x (x (fn (x) x) x))))", "(def f () (case g (a (a (fn (b) b) a))))"}, {"(def f () (case g ((C x y) (x (let ((y x) (x y)) (x y)) y))))", "(def f () (case g ((C a b) (a (let ((c d) (d c)) (d c)) b))))"}, {"(def f () (case g ((C x y) (case x ((C y x) (x y)) (_ (x y))))))", "(def f () (case g ((C a b) (case a ((C c d) (d c)) (_ (a b))))))"}, {"(def f () (case (fn (x) x) (x (fn (y) (x y)))))", "(def f () (case (fn (a) a) (b (fn (c) (b c)))))"},
		{"(def f (x) (fn (x) (let ((x x)) (case x (x x)))))", "(def f (a) (fn (b) (let ((c c)) (case c (d d)))))"}, {"(def f (x) (case (case x (x x)) (x (case x (x x)))))", "(def f (a) (case (case a (b b)) (c (case c (d d)))))"}, {"(def f (x) (x (fn (x) (x (fn (x) (x (fn (x) x) x)) x)) x))", "(def f (a) (a (fn (b) (b (fn (c) (c (fn (d) d) c)) b)) a))"},
	})
}

// TestSideBySide has names that are bound more than once, none within the other.
func TestSideBySide(t *testing.T) {
	checkTexts(t, [][2]string{
		{"(def f () ((fn (x) x) (fn (x) x)))", "(def f () ((fn (a) a) (fn (b) b)))"}, {"(def f () (C (let ((x 1)) x) (let ((x 2)) x)))", "(def f () (C (let ((a 1)) a) (let ((b 2)) b)))"}, {"(def f () (+ (case 1 (x x)) (case 2 (x x))))", "(def f () (+ (case 1 (a a)) (case 2 (b b))))"}, {"(def f () (case g (A 1) ((B x) x) ((C x y) (x y)) (x x)))", "(def f () (case g (A 1) ((B a) a) ((C b c) (b c)) (d d)))"}, {"(def f () (case g ((C x y) (x y)) ((C y x) (x y))))", "(def f () (case g ((C a b) (a b)) ((C c d) (d c))))"},
		{"(def f (x) (x (fn (y) (x y)) (fn (y) (y x))))", "(def f (a) (a (fn (b) (a b)) (fn (c) (c a))))"}, {"(def f () (let ((f (fn (x) x)) (k (fn (x) x))) (fn (x) (f k x))))", "(def f () (let ((a (fn (c) c)) (b (fn (d) d))) (fn (e) (a b e))))"}, {"(def f () (fn (x) x)) (def k (x) (x (fn (x) x)))", "(def f () (fn (a) a)) (def k (b) (b (fn (c) c)))"}, {"(def f () (fn (x y) ((fn (x) (x y)) (fn (y) (x y)))))", "(def f () (fn (a b) ((fn (c) (c b)) (fn (d) (a d)))))"},
	})
}

// TestLets has names that a let's own parts use, and its body.
func TestLets(t *testing.T) {
	checkTexts(t, [][2]string{
		{"(def f () (let ((x x)) x))", "(def f () (let ((a a)) a))"}, {"(def f () (let ((x y) (y x)) (x y)))", "(def f () (let ((a b) (b a)) (a b)))"}, {"(def f () (let ((x (y z)) (y (z x)) (z (x y))) (x y z)))", "(def f () (let ((a (b c)) (b (c a)) (c (a b))) (a b c)))"}, {"(def f (x y) (let ((x y) (z x)) (x y z)))", "(def f (a b) (let ((c b) (d c)) (c b d)))"}, {"(def f (x) (let ((y x)) (let ((x y)) (x y))))", "(def f (a) (let ((b a)) (let ((c b)) (c b))))"},
		{"(def f () (let ((x (let ((y x)) (let ((x y)) (x y)))) (y x)) (x y)))", "(def f () (let ((a (let ((c a)) (let ((d c)) (d c)))) (b a)) (a b)))"}, {"(def f () (let ((x (fn (y) (x y))) (y (fn (x) (x y)))) (x y)))", "(def f () (let ((a (fn (c) (a c))) (b (fn (d) (d b)))) (a b)))"}, {"(def f () (let ((x (case y ((C x y) (x y)) (_ (x y)))) (y x)) y))", "(def f () (let ((a (case b ((C c d) (c d)) (_ (a b)))) (b a)) b))"}, {"(def f () (let ((x 1)) 2))", "(def f () (let ((a 1)) 2))"},
	})
}

// TestDefinitionsHidden has bound names that are definitions', too, which are used within what hides them, and outside of it.
func TestDefinitionsHidden(t *testing.T) {
	checkTexts(t, [][2]string{
		{"(def f (g) g)", "(def f (a) a)"}, {"(def f (f) (f g))", "(def f (a) (a g))"}, {"(def f (main) (f main g h))", "(def f (a) (f a g h))"}, {"(def f (h g) (g h f)) (def k (f) (g h f k))", "(def f (a b) (b a f)) (def k (c) (g h c k))"}, {"(def f () (g (fn (g) g) g))", "(def f () (g (fn (a) a) g))"}, {"(def f () (g (let ((g g) (k h)) (g h k)) g h))", "(def f () (g (let ((a a) (b h)) (a h b)) g h))"}, {"(def f () (case g (g (g h)) (h (g h)) (_ (g h))))", "(def f () (case g (a (a h)) (b (g b)) (_ (g h))))"},
		{"(def f () (f (fn (f) (f (fn (f) f) f)) f))", "(def f () (f (fn (a) (a (fn (b) b) a)) f))"}, {"(def f () (let ((f (fn (x) (f x)))) (f g)))", "(def f () (let ((a (fn (b) (a b)))) (a g)))"}, {"(def f () (case f ((C f g) (f g)) ((B (C h f)) (f g h)) (main (main f))))", "(def f () (case f ((C a b) (a b)) ((B (C c d)) (d g c)) (e (e f))))"}, {"(def f () (main (fn (main) (main (let ((main main)) main) main)) main))", "(def f () (main (fn (a) (a (let ((b b)) b) a)) main))"},
		{"(def f (k) (k f)) (def k (f) (k f))", "(def f (a) (a f)) (def k (b) (k b))"}, {"(def f (f g h main) (fn (f g h main) (main h g f)))", "(def f (a b c d) (fn (e f g h) (h g f e)))"},
	})
}

// TestOtherNamesStay has types' parameters, constructors and operations, that are no bound names, with bound names that are like them.
func TestOtherNamesStay(t *testing.T) {
	const datas = "(data X (x y) (X x y) (Y (X y x) (-> x y)))\n(data Z (x) (Z x (Z x)))\n"
	p := named(t, datas+"(def f (x y) (case x ((X x y) (Y (X y x) x)) ((Y y x) (X x (Z y y))))) (def k (y x) (re (+ x (cpx y x)))) (def main () (let ((y main)) (X y y)))")
	checkAll(t, p)
	const want = datas + "(def f (a b) (case a ((X c d) (Y (X d c) c)) ((Y e f) (X f (Z e e)))))\n(def k (g h) (re (+ h (cpx g h))))\n(def main () (let ((i main)) (X i i)))\n"
	if got := show.Program(lettered(check(t, p))); got != want {
		t.Errorf("it became\n%snot\n%s", got, want)
	}
}

// TestExamples has the document's example, by its own names.
func TestExamples(t *testing.T) {
	q := check(t, named(t, "(def main () (fn (x) (fn (x) x)))"))
	outer := q.Defs[0].Body
	inner := outer.Args[0]
	if body := inner.Args[0]; outer.Names[0] == inner.Names[0] || body.Kind != api.VarE || body.Name != inner.Names[0] || slices.Contains(outer.Names, "main") {
		t.Error("(fn (x) (fn (x) x)) became", show.Expr(outer))
	}
}
