package fresh_test

import (
	"fmt"
	"strings"
	"testing"

	"reverie/api"
	"reverie/fresh"
	"reverie/made"
	"reverie/words"
)

// binders are expressions that bind # and z in all places, use $ outside of these, and have another expression in the place of @.
func binders() []string {
	return []string{
		"(fn (#) @)", "(fn (z #) @)", "(let ((# x)) @)", "(let ((# @)) #)", "(let ((z @) (# z)) #)", "(let ((z #) (# y)) @)", "(case $ (# @) (_ $))", "(case @ (# #) (_ $))", "(case $ ((B #) #) (_ @))", "(case $ ((C (B #) (C z _)) @) ((C # (B z)) (# z)))",
	}
}

// called is a binder with names in it.
func called(binder, name, z, outside string) string {
	return strings.NewReplacer("#", name, "z", z, "$", outside).Replace(binder)
}

// TestNests has all binders in each other, that bind parameters, and a definition's name, and use all of these ahead of what stands within, in it, and behind it.
func TestNests(t *testing.T) {
	t.Parallel()
	const uses = "(C x (C y (C g (C @ (C x (C y g))))))"
	var all []string
	for _, b := range binders() {
		for _, name := range []string{"x", "y", "g"} {
			all = append(all, strings.Replace(called(b, name, "z", name), "@", uses, 1))
		}
	}
	for _, a := range all {
		for _, b := range all {
			for _, c := range all {
				s := "(def f (x y) @)"
				for _, inner := range []string{a, b, c, "f"} {
					s = strings.Replace(s, "@", inner, 1)
				}
				check(t, named(t, head+s))
			}
		}
	}
}

// deepest is a definition of as many binders in each other as a text may have: each one's text is told by its number.
func deepest(t *testing.T, binder func(i int) string) api.Program {
	t.Helper()
	p, wrong := made.Deepest(head+"(def f (x y) @)", "(C x (C y g))", binder)
	if wrong != "" {
		t.Fatal(wrong)
	}
	return p
}

// TestDeepTexts has each binder in itself, with names that hide each other, and with such that hide none.
func TestDeepTexts(t *testing.T) {
	t.Parallel()
	list := append(binders(), "(fn (a b c d e h i #) @)", "(let ((a b) (b c) (c d) (d e) (e h) (h i) (i #) (# a)) @)", "(case $ ((E a b c d e h i #) @))", "(case $ ((B (B (B (B #)))) @))")
	for _, b := range list {
		for _, name := range []string{"x", "g", "f"} {
			checkAll(t, deepest(t, func(int) string { return called(b, name, "y", name) }))
		}
		checkAll(t, deepest(t, func(i int) string { return called(b, fmt.Sprint("n", i), fmt.Sprint("m", i), "x") }))
		checkAll(t, deepest(t, func(i int) string { return called(b, fmt.Sprint("n", i%3), fmt.Sprint("n", (i+1)%3), "y") }))
	}
	for _, pat := range []string{"(C @ _)", "(C _ @)", "(B @)"} {
		checkAll(t, named(t, head+"(def f (x) (case x ("+made.Inside(36, pat, "x")+" x) ("+made.Inside(36, pat, "y")+" (x y)) (x x)))"))
	}
}

// TestManyNames has as many names in lists, patterns in cases, parts in patterns, and definitions, as there may be, or as a text has.
func TestManyNames(t *testing.T) {
	t.Parallel()
	eight := made.Numbered(8, "x# ")
	for _, s := range []string{
		made.Numbered(98, "(def f# (x f0 f97) (f97 f0 f# x)) "), made.Numbered(30, "(def f# ("+eight+") ((fn ("+eight+") x7) x7 f#)) "), "(def f0 (x) (case x " + strings.Repeat("((E "+eight+") (x0 x7 x)) ", 16) + "))",
		"(def f0 (x) (case x " + strings.Repeat("((E (E "+made.Numbered(8, "a# ")+") (C (B c) (C c' _)) 1 A (B (B (B d))) _ x "+"(E "+made.Numbered(8, "b# ")+")) (a0 a7 b0 b7 c c' d x)) ", 15) + "(x x)))", "(def f0 (x) (let (" + strings.ReplaceAll(made.Numbered(8, "(x# (let (@) (x0 x7 x)))"), "@", made.Numbered(8, "(x# (x x#))")) + ") (x0 x7 x)))",
	} {
		checkAll(t, named(t, s+" (data T () (A) (B T) (C T T) (E T T T T T T T T)) (def main () f0)"))
	}
}

// nestOf is an expression of kinds of binders in each other, called by turns; x and g are used in each.
func nestOf(deep, kinds int, name func(i int) string) api.Expr {
	g := api.Expr{Kind: api.VarE, Name: "g"}
	x := api.Expr{Kind: api.VarE, Name: "x"}
	for i := range deep {
		n := name(i)
		x = api.Expr{Kind: api.AppE, Args: []api.Expr{g, x, {Kind: api.VarE, Name: n}}}
		switch (i + kinds) % 4 {
		case 0:
			x = api.Expr{Kind: api.FnE, Names: []string{n}, Args: []api.Expr{x}}
		case 1:
			x = api.Expr{Kind: api.LetE, Names: []string{n}, Args: []api.Expr{g, x}}
		case 2:
			x = api.Expr{Kind: api.LetE, Names: []string{n}, Args: []api.Expr{x, g}}
		case 3:
			x = api.Expr{Kind: api.CaseE, Args: []api.Expr{g}, Alts: []api.Alt{{Pat: api.Pat{Kind: api.ConP, Name: "B", Args: []api.Pat{{Kind: api.VarP, Name: n}}}, Body: x}}}
		}
	}
	return x
}

// TestDeeperThanTexts has more names within each other than any text.
func TestDeeperThanTexts(t *testing.T) {
	t.Parallel()
	names := []func(i int) string{func(int) string { return "x" }, func(i int) string { return fmt.Sprint("x", i) }, func(i int) string { return []string{"x", "y", "h"}[i%3] }}
	for i, name := range names {
		p := named(t, head)
		p.Defs = append(p.Defs, api.Def{Name: "f", Params: []string{"x"}, Body: nestOf(1<<11, i, name)})
		check(t, p)
		p.Defs[len(p.Defs)-1].Body = nestOf(1<<17, i, name)
		if wrong := words.Twice(fresh.Program(p)); wrong != "" {
			t.Fatal("very deep names:", wrong)
		}
	}
}
