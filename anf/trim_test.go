package anf_test

import (
	"fmt"
	"strconv"
	"strings"
	"testing"

	"reverie/anf"
	"reverie/api"
	"reverie/made"
)

// checkTrims asks what is trimmed of a definition's body, and of the same one in all places where expressions stand.
func checkTrims(t *testing.T, table [][2]string) {
	t.Helper()
	for _, row := range table {
		for _, place := range []string{"@", "(fn (y) @)", "(fn (y) (fn (z) @))", "(let ((y (B @))) y)", "(let ((y 1)) @)", "(let ((y 1) (z @)) (+ y z))", "(case @ (_ x))", "(case x (A @) (_ 1))", "(case x ((C (B y) _) y) (z @))", "(+ @ x)", "(re @)", "(cpx 1 @)", "((fn (y) @) x)", "(x 1 @ 2)", "(C @ x)"} {
			p := named(t, head+"(def f (x) "+strings.Replace(place, "@", row[0], 1)+")")
			want := "(def f (x) " + strings.Replace(place, "@", row[1], 1) + ")"
			if got := defs(checkTrim(t, p)); got != want {
				t.Errorf("%s became %s, not %s", defs(p), got, want)
			}
			checkAll(t, p)
		}
	}
}

// TestTrimmed has lets of one name for another name, that is used in all kinds of parts, in none, once and more often.
func TestTrimmed(t *testing.T) {
	t.Parallel()
	checkTrims(t, [][2]string{
		{"(let ((a x)) a)", "x"}, {"(let ((a g)) a)", "g"}, {"(let ((a f)) a)", "f"}, {"(let ((a x)) 1)", "1"}, {"(let ((a x)) x)", "x"}, {"(let ((a x)) A)", "A"}, {"(let ((a x)) (a a))", "(x x)"}, {"(let ((a x)) (x a g a))", "(x x g x)"}, {"(let ((a x)) (C a (B a)))", "(C x (B x))"}, {"(let ((a x)) (E a 1 a g a A a x))", "(E x 1 x g x A x x)"}, {"(let ((a x)) (+ a (* 2 a)))", "(+ x (* 2 x))"}, {"(let ((a x)) (re (cmul (cpx a 1) a)))", "(re (cmul (cpx x 1) x))"}, {"(let ((a x)) (fn (b) (a b)))", "(fn (b) (x b))"},
		{"(let ((a x)) (fn (b c) (fn (d) (a b c d))))", "(fn (b c) (fn (d) (x b c d)))"}, {"(let ((a x)) (let ((b (a 1))) (b a)))", "(let ((b (x 1))) (b x))"}, {"(let ((a x)) (let ((b (B a)) (c a)) (b c a)))", "(let ((b (B x)) (c x)) (b c x))"}, {"(let ((a x)) (case a (A a) (_ 1)))", "(case x (A x) (_ 1))"}, {"(let ((a x)) (case g ((B b) (a b)) ((C (B c) d) (c d a)) (1 a) (e (e a)) (_ a)))", "(case g ((B b) (x b)) ((C (B c) d) (c d x)) (1 x) (e (e x)) (_ x))"}, {"(let ((a x)) (case (case a (A a) (b (b a))) (c (c a))))", "(case (case x (A x) (b (b x))) (c (c x)))"},
		{"(let ((a h)) (fn (b) (let ((c (a b))) (case c ((B d) (+ a (d a))) (e (C a e))))))", "(fn (b) (let ((c (h b))) (case c ((B d) (+ h (d h))) (e (C h e)))))"}, {"(C (let ((a x)) a) (let ((b x)) (b b)))", "(C x (x x))"}, {"((let ((a g)) a) (let ((b x)) b))", "(g x)"}, {"(+ (let ((a x)) (fn (b) a)) (let ((c g)) (c c)))", "(+ (fn (b) x) (g g))"}, {"(fn (b) (let ((a b)) (b a)))", "(fn (b) (b b))"}, {"(case x ((C b c) (let ((a c)) (a b))) (d (let ((e d)) (e d))))", "(case x ((C b c) (c b)) (d (d d)))"},
		{"(let ((b (let ((a x)) (a 1)))) (let ((c b)) (c b)))", "(let ((b (x 1))) (b b))"}, {"(let ((b (B c)) (c (let ((a b)) (C a c)))) (let ((d c)) (d b)))", "(let ((b (B c)) (c (C b c))) (c b))"},
	})
}

// TestTrimmedInEachOther has lets of one name for another name in each other's bodies, and in each other's expressions, that are trimmed from within outward.
func TestTrimmedInEachOther(t *testing.T) {
	t.Parallel()
	checkTrims(t, [][2]string{
		{"(let ((a x)) (let ((b a)) b))", "x"}, {"(let ((a x)) (let ((b a)) (a b x)))", "(x x x)"}, {"(let ((a x)) (let ((b g)) (let ((c h)) (a b c))))", "(x g h)"}, {"(let ((a x)) (let ((b a)) (let ((c b)) (let ((d c)) (let ((e d)) (a b c d e))))))", "(x x x x x)"}, {"(let ((a x)) (let ((b x)) (let ((c a)) (let ((d b)) (let ((e c)) (a b c d e))))))", "(x x x x x)"}, {"(let ((a (let ((b x)) b))) a)", "x"}, {"(let ((a (let ((b x)) b))) (a x))", "(x x)"}, {"(let ((a (let ((b (let ((c x)) c))) b))) (a a))", "(x x)"},
		{"(let ((a (let ((b (let ((c (let ((d x)) d))) (let ((e c)) e)))) (let ((i b)) i)))) (let ((j a)) (j a)))", "(x x)"}, {"(let ((a (let ((b x)) (let ((c b)) c)))) (a 1))", "(x 1)"}, {"(let ((a (let ((b x)) (b b)))) (a a))", "(let ((a (x x))) (a a))"}, {"(let ((a (let ((b x)) (let ((c (b b))) c)))) a)", "(let ((a (let ((c (x x))) c))) a)"}, {"(let ((a (let ((b 1)) (let ((c b)) c)))) a)", "(let ((a (let ((b 1)) b))) a)"}, {"(let ((a (fn (b) (let ((c b)) c)))) (let ((d a)) (d a)))", "(let ((a (fn (b) b))) (a a))"}, {"(let ((a (let ((b a)) b))) a)", "(let ((a a)) a)"},
		{"(let ((a (let ((b a)) b))) (let ((c a)) (c a)))", "(let ((a a)) (a a))"}, {"(let ((a (let ((b (let ((c a)) c))) (let ((d b)) d)))) (a x))", "(let ((a a)) (a x))"}, {"(let ((a (let ((b a)) (b x)))) a)", "(let ((a (a x))) a)"}, {"(let ((a (let ((b (B a))) (let ((c b)) (C c a))))) (let ((d a)) d))", "(let ((a (let ((b (B a))) (C b a)))) a)"}, {"(let ((a (let ((b b)) b))) a)", "(let ((a (let ((b b)) b))) a)"}, {"(let ((a x)) (let ((b (let ((c a)) (c (let ((d c)) d))))) (let ((e b)) (e (let ((i e)) i)))))", "(let ((b (x x))) (b b))"},
	})
}

// TestTrimStays has lets of one name for what is no name, or for itself, lets of many names, and parts without lets.
func TestTrimStays(t *testing.T) {
	t.Parallel()
	for _, s := range []string{
		"x", "(f (g 1) 2)", "(let ((a 1)) a)", "(let ((a -7)) (a x))", "(let ((a A)) (B a))", "(let ((a (B x))) (C a a))", "(let ((a (fn (b) b))) (a a))", "(let ((a (g x))) (a a))", "(let ((a (g a))) a)", "(let ((a (+ x 1))) (+ a a))", "(let ((a (case x (b b)))) a)", "(let ((a (case x (_ x)))) (a x))", "(let ((a (let ((b 1)) b))) a)", "(let ((a (let ((b 1)) x))) a)", "(let ((a (let ((b x) (c x)) b))) a)", "(let ((a a)) a)", "(let ((a a)) (a x))", "(let ((a a)) x)", "(let ((a x) (b x)) (a b))", "(let ((a b) (b a)) (a b))", "(let ((a b) (b c) (c x)) (a b c))", "(let ((a a) (b x)) b)",
		"(let ((a x) (b x) (c x) (d x) (e x) (i x) (j x) (l x)) (a b c d e i j l))", "(case x (a (a a)) (_ x))", "((fn (a) (a a)) x)",
	} {
		checkTrims(t, [][2]string{{s, s}})
	}
}

// TestTrimmedBesides has lets that are trimmed in such that stay, and such that stay in those that are trimmed.
func TestTrimmedBesides(t *testing.T) {
	t.Parallel()
	checkTrims(t, [][2]string{
		{"(let ((a x) (b x)) (let ((c a)) (a b c)))", "(let ((a x) (b x)) (a b a))"}, {"(let ((a (let ((c b)) c)) (b (let ((d a)) d))) (a b))", "(let ((a b) (b a)) (a b))"}, {"(let ((a (let ((c b)) (c 1))) (b x)) (a b))", "(let ((a (b 1)) (b x)) (a b))"}, {"(let ((a x)) (let ((b a) (c a)) (let ((d b)) (a b c d))))", "(let ((b x) (c x)) (x b c b))"}, {"(let ((a x)) (let ((b 1)) (let ((c b)) (a b c))))", "(let ((b 1)) (x b b))"}, {"(let ((a x)) (let ((b b)) (let ((c b)) (a b c))))", "(let ((b b)) (x b b))"},
		{"(let ((a a)) (let ((b a)) (let ((c b)) (a b c))))", "(let ((a a)) (a a a))"}, {"(let ((a (B b)) (b (C a a))) (let ((c b)) (let ((d a)) (case c ((C e _) (let ((i e)) (i d)))))))", "(let ((a (B b)) (b (C a a))) (case b ((C e _) (e a))))"},
	})
}

// TestTrimDefinitions has names for names in several definitions, of which some use each other.
func TestTrimDefinitions(t *testing.T) {
	t.Parallel()
	for _, row := range [][2]string{
		{"(def f () (let ((a k)) (a a))) (def k () (let ((b f)) (b (let ((c k)) c))))", "(def f () (k k)) (def k () (f k))"},
		{"(def f (x) (let ((a x)) a)) (def k (y z) (let ((b z)) (let ((c y)) (b c f)))) (def l () (let ((d l)) d))", "(def f (x) x) (def k (y z) (z y f)) (def l () l)"},
		{made.Numbered(50, "(def f# () (let ((a# f0)) (let ((b# a#)) (f# a# b#)))) "), strings.TrimSpace(made.Numbered(50, "(def f# () (f# f0 f0)) "))},
	} {
		p := named(t, head+row[0])
		if got := defs(checkTrim(t, p)); got != row[1] {
			t.Errorf("%s became %s, not %s", row[0], got, row[1])
		}
	}
}

// TestTrimOtherNames has a name for a name that is like a constructor, an operation, or a type, which stay.
func TestTrimOtherNames(t *testing.T) {
	t.Parallel()
	p := named(t, head+"(def f (x) (let ((a x)) (C (+ a (re A)) (case a ((C b (B c)) (C b a)) (A (a A)) (_ a)))))")
	want := checkTrim(t, p)
	for _, other := range []string{"A", "B", "C", "T", "+", "re", "A.1", "M.1", "x.1", ""} {
		if got := checkTrim(t, made.Renamed(p, map[string]string{"a": other})); !made.Equal(got, want) {
			t.Errorf("with %q: %s, not %s", other, defs(got), defs(want))
		}
	}
}

// binders are expressions, most of which bind names for names, that have another one in the place of @, and the names that hold there. The level at which one stands in others is put in for #.
func binders() [][2]string {
	return [][2]string{
		{"(let ((a# x)) @)", "a#"}, {"(let ((a# @)) a#)", "a#"}, {"(let ((a# @)) (a# x))", "a#"}, {"(let ((a# a#)) @)", "a#"}, {"(let ((a# (let ((b# a#)) @))) a#)", "a# b#"}, {"(let ((a# (let ((b# y)) b#))) @)", "a#"},
		{"(let ((a# (B x))) (let ((b# a#)) @))", "a# b#"}, {"(let ((a# y) (b# @)) b#)", "a# b#"}, {"(fn (a#) (let ((b# a#)) @))", "a# b#"}, {"(case x ((B a#) (let ((b# a#)) @)) (_ y))", "a# b#"}, {"(y @ x)", ""}, {"(case @ (A x) (a# a#))", ""},
	}
}

// TestTrimNests has these in each other, and in the innermost one a name that holds, or all of them.
func TestTrimNests(t *testing.T) {
	t.Parallel()
	list := binders()
	for i := range len(list) * len(list) * len(list) * len(list) {
		s, names := "(def f (x y) @)", []string{"x", "y"}
		for level, left := 0, i; level < 4; level, left = level+1, left/len(list) {
			one := list[left%len(list)]
			put := strings.NewReplacer("#", strconv.Itoa(level))
			s = strings.Replace(s, "@", put.Replace(one[0]), 1)
			names = append(names, strings.Fields(put.Replace(one[1]))...)
		}
		inner := names[i%len(names)]
		if i%3 > 0 {
			inner = "(C (" + strings.Join(names[:len(names)/2], " ") + " g) (g " + strings.Join(names[len(names)/2:], " ") + "))"
		}
		p := named(t, head+strings.Replace(s, "@", inner, 1))
		q := checkTrim(t, p)
		if again := anf.Trim(q); !made.Equal(again, q) {
			fail(t, q, again, "though it was trimmed")
		}
	}
}

// TestTrimLong has more names for names than any text, in each other's bodies, and in each other's expressions.
func TestTrimLong(t *testing.T) {
	t.Parallel()
	for _, deep := range []int{1 << 8, 1 << 12} {
		inBodies, inExprs := variable(fmt.Sprint("a", deep-1)), variable("g")
		for i := deep - 1; i >= 0; i-- {
			other := "g"
			if i > 0 {
				other = fmt.Sprint("a", i-1)
			}
			inBodies = api.Expr{Kind: api.LetE, Names: []string{fmt.Sprint("a", i)}, Args: []api.Expr{variable(other), inBodies}}
			inExprs = api.Expr{Kind: api.LetE, Names: []string{fmt.Sprint("b", i)}, Args: []api.Expr{inExprs, variable(fmt.Sprint("b", i))}}
		}
		p := named(t, head)
		p.Defs = append(p.Defs, api.Def{Name: "f", Body: inBodies}, api.Def{Name: "k", Body: inExprs})
		if got := defs(anf.Trim(p)); got != "(def f () g) (def k () g)" {
			t.Error(got)
		}
		checkTrim(t, p)
	}
}
