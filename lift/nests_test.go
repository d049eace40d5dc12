package lift_test

import (
	"fmt"
	"strings"
	"testing"

	"reverie/anf"
	"reverie/api"
	"reverie/fresh"
	"reverie/lift"
	"reverie/made"
	"reverie/words"
)

// forms are expressions that have another one in the place of @.
func forms() []string {
	return []string{
		"(fn (z) @)", "(fn (x) @)", "(fn (v w) (v @ y))", "((fn (z) @) x)", "(g @)", "(@ x)", "(x y @ 1)", "(C A @)", "(+ @ 1)",
		"(let ((z @)) (z x))", "(let ((x A) (z x)) @)", "(let ((z (fn (v) (z v x))) (y @)) (z y))", "(case @ (A x) (_ (g y)))", "(case x ((B z) @) (_ y))", "(case (g (fn (v) y)) ((C x (B _)) (x 1)) (y @))",
	}
}

// TestNests has all forms in each other, with a function in them, and with all names that hold.
func TestNests(t *testing.T) {
	t.Parallel()
	for _, a := range forms() {
		for _, b := range forms() {
			for _, c := range forms() {
				s := "(def f (x y) @)"
				for _, inner := range []string{a, b, c, "(y (fn (u) (g u x y)))"} {
					s = strings.Replace(s, "@", inner, 1)
				}
				p := named(t, head+s)
				check(t, p)
				check(t, fresh.Program(p))
				check(t, anf.Program(p))
			}
		}
	}
}

// TestDeepTexts has each form in itself, and all of them in each other, as deep as a text may have it.
func TestDeepTexts(t *testing.T) {
	t.Parallel()
	deepest := func(form func(i int) string) {
		p, wrong := made.Deepest(head+"(def f (x y) @)", "(y x)", form)
		if wrong != "" {
			t.Fatal(wrong)
		}
		checkAll(t, p)
	}
	list := forms()
	for i, one := range list {
		deepest(func(int) string { return one })
		for step := 1; step < len(list); step++ {
			deepest(func(j int) string { return list[(i+step*j)%len(list)] })
		}
	}
	for _, one := range []string{"(fn (x#) @)", "(fn (x# y#) (x# (fn (z) (x z)) @))", "(fn (x#) (let ((y# (fn (z) (x# z y)))) @))"} {
		deepest(func(i int) string { return strings.ReplaceAll(one, "#", fmt.Sprint(i)) })
	}
}

// TestAllNamesAreFree has functions in each other as deep as a text may have it, of which the innermost uses all names that hold.
func TestAllNamesAreFree(t *testing.T) {
	t.Parallel()
	for _, times := range []int{1, 2, 20, 35, 36} {
		uses, s := "y", ""
		for i := range times {
			s += fmt.Sprintf("(fn (x%d) ", i)
			if i < times/2 {
				uses = fmt.Sprintf("(C x%d %s)", i, uses)
			}
		}
		if times > 35 {
			uses = "(x0 x35)"
		}
		for _, last := range []string{uses, "(x0 y)", "g"} {
			s, deep := s, strings.Count(last, "(")
			if deep+times > 37 {
				s = s[:strings.Index(s, fmt.Sprintf("(fn (x%d", 37-deep))]
			}
			checkAll(t, named(t, head+"(def f (y) "+s+last+strings.Repeat(")", strings.Count(s, "(fn"))+")"))
		}
	}
}

// TestManyParts has as many functions, parameters, names of a let, patterns, and definitions, as there may be, or as a text has.
func TestManyParts(t *testing.T) {
	t.Parallel()
	for _, s := range []string{
		made.Numbered(96, "(def f# (x) (fn (y) (f0 (f95 x) y))) "), "(def f0 (x) (case x " + strings.Repeat("((E a b c d e i j k) (fn (l) (a b (fn (m) (l c d e i j k m))))) ", 16) + "))", "(def f0 (x) (let (" + made.Numbered(8, "(x# (fn (y) (x0 (x# x (fn (z) (x7 z y))))))") + ") (x0 (fn (y) (x7 x1)))))",
		"(def f0 (x) " + made.Inside(200, "(C (fn (y) y) (C (fn (y) x) x))", "") + ")", "(def f0 (x) (C " + strings.Repeat("(E (fn (a) a) (fn (a) x) (fn (a b c d e i j k) (x a)) x 1 g (fn (a) (fn (b) (a b x))) (fn (x) x)) ", 2) + "))", "(def f0 (a b c d e i j k) (fn (l m n o p q r s) (fn (t u v w x y z a') (E (a b c d) (e i j k) (l m n o) (p q r s) (t u v w) (x y z a') g h))))",
	} {
		checkAll(t, named(t, head+s))
	}
}

// nestOf has functions in each other, that have names of others, and a few free ones.
func nestOf(deep int) api.Expr {
	x := called("z", []string{"x", "g", "y"})
	for i := range deep {
		x = api.Expr{Kind: api.FnE, Names: []string{string("xuvz"[i%4])}, Args: []api.Expr{x}}
	}
	return x
}

// TestDeeperThanTexts has more functions within each other than any text.
func TestDeeperThanTexts(t *testing.T) {
	t.Parallel()
	p := named(t, head)
	p.Defs = append(p.Defs, api.Def{Name: "f", Params: []string{"y"}, Body: nestOf(1 << 10)})
	check(t, p)
	check(t, fresh.Program(p))
	p.Defs[len(p.Defs)-1].Body = nestOf(1 << 16)
	q := lift.Program(p)
	if functions(q) != 0 || len(q.Defs) != len(p.Defs)+1<<16 || notNew(p, q.Defs[len(p.Defs):]) != "" {
		t.Fatal("very deep functions:", functions(q), len(q.Defs))
	}
}

// TestNewNames has names like new ones, that are bound, or definitions', and programs with those that were made for others.
func TestNewNames(t *testing.T) {
	t.Parallel()
	const s = "(def f (x) (fn (z) (z (let ((v (fn (u) (x u)))) (h v (fn (u) (case (x x) ((C w _) (fn (y) (w v y))) (_ x)))))))) (def y () (fn (u) (g A (f (fn (x) u)))))"
	for i := range 20 {
		for j := range 10 {
			var names []string
			for k := range 5 {
				names = append(names, fmt.Sprint("F.", i+k*(j+1)))
			}
			p := made.Renamed(named(t, head+s), map[string]string{"x": names[0], "z": names[1], "v": names[2], "w": names[3]})
			q := check(t, p)
			check(t, more(q, p))
			p.Defs[j%5].Name = names[4]
			q = check(t, p)
			check(t, more(q, p))
			check(t, check(t, fresh.Program(more(q, p))))
		}
	}
}

// TestKept has programs that are flat, and such whose arguments have names, with functions in all places where these may have them; so has what comes of them.
func TestKept(t *testing.T) {
	t.Parallel()
	for _, s := range []string{
		"(fn (y) (case y (A x) (_ (fn (z) (case x ((C a b) (fn (c) (a c))) (_ y))))))", "(let ((y (fn (z) (case z (1 (x z)) (_ (fn (a) (z a)))))) (z (fn (y) y))) (case y ((B a) (fn (b) (a b y))) (_ (y z))))", "(+ (case x (1 (fn (y) y)) (_ (fn (z) x))) (case x ((B y) (y x)) (_ 1)))", "(let ((y (fn (z) (x z 1)))) (let ((z (fn (w) (y w)))) (C y z)))",
	} {
		p := named(t, head+"(def f (x) "+s+")")
		if q := check(t, p); words.NotFlat(q)+words.NoNames(q) != "" {
			fail(t, p, q, words.NotFlat(q)+words.NoNames(q))
		}
	}
}
