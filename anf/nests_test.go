package anf_test

import (
	"fmt"
	"strings"
	"testing"

	"reverie/anf"
	"reverie/api"
	"reverie/fresh"
	"reverie/made"
	"reverie/words"
)

// forms are expressions that have another one in the place of @.
func forms() []string {
	return []string{
		"(g @)", "(@ x)", "(x y @ 1)", "((g 1) @ A)", "(@ (g x) 2 x)", "(g 1 2 3 4 5 6 7 @)", "(@ 1 2 3 4 5 6 7 x)", "(B @)", "(C @ x)", "(C A @)", "(E 1 x 3 @ g 6 A 8)", "(+ @ 1)", "(= x @)", "(re @)",
		"(fn (x z) @)", "((fn (z) @) x)", "(let ((z @)) z)", "(let ((x A) (z x)) @)", "(let ((z (x y)) (y @)) (z y))", "(case @ (A x) (_ (g y)))", "(case x ((B z) @) (_ y))", "(case (g A) ((C x (B _)) (x 1)) (y @))",
	}
}

// TestNests has all forms in each other.
func TestNests(t *testing.T) {
	t.Parallel()
	for _, a := range forms() {
		for _, b := range forms() {
			for _, c := range forms() {
				s := "(def f (x y) @)"
				for _, inner := range []string{a, b, c, "(y x)"} {
					s = strings.Replace(s, "@", inner, 1)
				}
				p := named(t, head+s)
				check(t, p)
				checkTurns(t, p)
			}
		}
	}
}

// TestDeepTexts has each form in itself, and all of them in each other, as deep as a text may have it.
func TestDeepTexts(t *testing.T) {
	t.Parallel()
	deepest := func(form func(i int) string) {
		p, wrong := made.Deepest(head+"(def f (x y) @)", "(y x)", form)
		if wrong != "" {
			t.Fatal(wrong)
		}
		checkAll(t, p)
	}
	list := forms()
	for i, one := range list {
		deepest(func(int) string { return one })
		for step := 1; step < len(list); step++ {
			deepest(func(j int) string { return list[(i+step*j)%len(list)] })
		}
	}
}

// filled is a text some times in itself, in the place of each @, and another one innermost.
func filled(times int, s, last string) string {
	for range times {
		last = strings.ReplaceAll(s, "@", last)
	}
	return last
}

// TestManyParts has as many arguments, names of a let, patterns, and definitions, as there may be, or as a text has.
func TestManyParts(t *testing.T) {
	t.Parallel()
	for _, s := range []string{
		made.Numbered(96, "(def f# (x) (f0 (f95 x) (C x A))) "), "(def f0 (x) (case (x A) " + strings.Repeat("((E a b c d e i j k) (a (b c) (d (e i)) (B j) k A)) ", 16) + "))", "(def f0 (x) (let (" + made.Numbered(8, "(x# (g (x x#) (B x0)))") + ") (x0 (x1 (x2 A)) (x7 x))))",
		"(def f0 (x) " + filled(3, "(E @ (x 1) (B @) A @ (g (h 2)) (fn (z) (z (z 1))) (let ((z (g A))) (z A)))", "(g (h 1) (C A A))") + ")", "(def f0 (x) " + filled(5, "(@ (x 1) (g A) x A @ 7 (g (h 2)) 8)", "(B (B A))") + ")",
	} {
		checkAll(t, named(t, head+s))
	}
}

// variable is a name's expression.
func variable(name string) api.Expr { return api.Expr{Kind: api.VarE, Name: name} }

// nestOf has applications in each other, what is applied in the one, and an argument in the next one.
func nestOf(deep int) api.Expr {
	x := variable("x")
	for i := range deep {
		list := []api.Expr{variable("g"), x}
		if i%2 == 0 {
			list = []api.Expr{x, variable("g")}
		}
		x = api.Expr{Kind: api.AppE, Args: list}
	}
	return x
}

// TestDeeperThanTexts has more parts within each other than any text.
func TestDeeperThanTexts(t *testing.T) {
	t.Parallel()
	p := named(t, head)
	p.Defs = append(p.Defs, api.Def{Name: "f", Params: []string{"x"}, Body: nestOf(1 << 11)})
	checkTurns(t, p)
	check(t, p)
	p.Defs[len(p.Defs)-1].Body = nestOf(1 << 13)
	q := anf.Program(p)
	if wrong := words.NoNames(q) + words.Twice(q); wrong != "" || len(words.Bound(q)) != 1<<13 {
		t.Fatal("very deep applications:", wrong, len(words.Bound(q)))
	}
}

// TestNewNames has names like new ones, that are bound, or definitions', and programs that have those that were made for others.
func TestNewNames(t *testing.T) {
	t.Parallel()
	const s = "(def f (x) (g (x y) (fn (z) (z (let ((v (x A))) (h v A)))) (case (x x) ((C w _) (w A)) (_ x)))) (def y () (g A (h A) (g (f A))))"
	for i := range 20 {
		for j := range 10 {
			var names []string
			for k := range 5 {
				names = append(names, fmt.Sprint("A.", i+k*(j+1)))
			}
			p := made.Renamed(named(t, head+s), map[string]string{"x": names[0], "z": names[1], "v": names[2], "w": names[3]})
			q := check(t, p)
			p.Defs[j%5].Name = names[4]
			check(t, p)
			for _, d := range q.Defs {
				d.Name += "'"
				p.Defs = append(p.Defs, d)
			}
			check(t, p)
			check(t, check(t, fresh.Program(p)))
		}
	}
}
