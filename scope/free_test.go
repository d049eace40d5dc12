package scope

import (
	"slices"
	"strings"
	"testing"

	"reverie/api"
)

// checkFree asks twice, and turns the first answer.
func checkFree(t *testing.T, x api.Expr, what string, want []string) {
	t.Helper()
	for range 2 {
		list := Free(x)
		if !slices.Equal(list, want) {
			t.Errorf("%s: %q, not %q", what, list, want)
			return
		}
		for i := range list {
			list[i] = "turned"
		}
	}
}

func TestFree(t *testing.T) {
	for s, want := range map[string]string{
		"1": "", "x": "x", "Nil": "", "x'": "x'",
		"(f x)": "f x", "(x f)": "x f", "(f x f y x z)": "f x y z", "((g y) (f x))": "g y f x", "(1 2)": "", "((C z) y x)": "z y x",
		"(+ b a)": "b a", "(+ a (* b a))": "a b", "(re (cpx y x))": "y x", "(C y x y)": "y x", "(C (D y) E x)": "y x", "(< 1 z)": "z",
		"(fn (x) x)": "", "(fn (x) y)": "y", "(fn (x y) (z y x w))": "z w", "(fn (x) (fn (y) (y x z)))": "z", "(fn (x) (fn (x) (x y)))": "y", "(fn (x x) x)": "",
		"(let ((x 1)) x)": "", "(let ((x x)) x)": "", "(let ((x 1)) y)": "y", "(let ((x y) (z x)) (w z v))": "y w v", "(let ((x y) (y x)) z)": "z", "(let ((x b)) (a x))": "b a", "(let ((x b) (y a)) (a b c))": "b a c", "(let ((x y) (x z)) x)": "y z",
		"(let ((f (fn (x) (f (g x))))) (f y))": "g y", "(let ((x (let ((y z)) y))) (y x))": "z y",
		"(case x (1 y) (_ z))": "x y z", "(case 1 (x x) (y x))": "x", "(case x (x x))": "x", "(case y (x (x y)))": "y", "(case 1 ((C a b) (b a c)) ((D c) (c a)))": "c a", "(case (f x) ((C (D y z) _) (z y x w)) (N y))": "f x w y",
		"(case b ((C b) b) (_ a))": "b a", "(case 1 (C c) (1 b) (_ a))": "c b a", "(case 1 ((C x x) (x y)))": "y", "(case c ((C x) b) (x a))": "c b a",
	} {
		checkFree(t, parsedExpr(t, s), s, strings.Fields(want))
	}
}

// TestFreeElsewhere has names that a part binds, and that are free ahead of it, behind it, or both: that they are bound in between doesn't matter, and their places there don't count.
func TestFreeElsewhere(t *testing.T) {
	for s, want := range map[string]string{
		"((fn (x) x) x)": "x", "(x (fn (x) x))": "x", "(f (fn (x) x) y x)": "f y x", "(f (fn (y) (y x)) y)": "f x y", "((fn (x) (x y)) (fn (y) (y x)))": "y x", "(fn (x) ((fn (y) (y x z)) y))": "z y", "(fn (x) ((fn (x) x) x y))": "y",
		"(f (let ((x 1)) x) y x)": "f y x", "(x (let ((x y)) x) y)": "x y", "((let ((x y)) (x z)) x)": "y z x", "(let ((x (fn (y) y))) (y x))": "y", "(let ((x (let ((y 1)) y)) (z y)) x)": "y", "(let ((x 1)) (f (let ((x 2)) x) x))": "f", "(+ (let ((a b)) a) (let ((b a)) b))": "b a",
		"(f (case 1 (x x)) y x)": "f y x", "(case 1 (x (y x)) (_ (x y)))": "y x", "(case (case 1 (x x)) (y (x y)))": "x", "(case x ((C x y) (x y)) (y (y x)) (_ y))": "x y", "(case 1 ((C (D x)) x) ((C x) x) (_ x))": "x", "(fn (x) (case x ((C x) x) (y (x y z))))": "z", "(f (case 1 ((C x y) (y x))) y x)": "f y x",
		"(fn (f) (let ((f f)) (case f (f f))))": "", "(f (fn (f) (let ((g g)) (case g (h h)))) h g)": "f h g",
	} {
		checkFree(t, parsedExpr(t, s), s, strings.Fields(want))
	}
}

// TestFreeOfOtherLayers has expressions such as later layers make.
func TestFreeOfOtherLayers(t *testing.T) {
	fails, x, m := api.Expr{Kind: api.FailE}, api.Expr{Kind: api.VarE, Name: "x"}, api.Expr{Kind: api.VarE, Name: "M.1"}
	checkFree(t, fails, "fail", nil)
	checkFree(t, m, "M.1", []string{"M.1"})
	let := api.Expr{Kind: api.LetE, Names: []string{"M.1"}, Args: []api.Expr{fails, {Kind: api.CaseE, Args: []api.Expr{x}, Alts: []api.Alt{{Body: m}}}}}
	checkFree(t, let, "(let ((M.1 fail)) (case x (_ M.1)))", []string{"x"})
	checkFree(t, api.Expr{Kind: api.AppE, Args: []api.Expr{let, m, fails}}, "((let ((M.1 fail)) (case x (_ M.1))) M.1 fail)", []string{"x", "M.1"})
}

// TestFreeOfDeepExpressions has more lists in lists than a text may have.
func TestFreeOfDeepExpressions(t *testing.T) {
	x, y := api.Expr{Kind: api.VarE, Name: "x"}, api.Expr{Kind: api.VarE, Name: "y"}
	fn, let, app, on := y, y, y, y
	for range 1 << 14 {
		fn = api.Expr{Kind: api.FnE, Names: []string{"x"}, Args: []api.Expr{fn}}
		let = api.Expr{Kind: api.LetE, Names: []string{"x"}, Args: []api.Expr{x, let}}
		app = api.Expr{Kind: api.AppE, Args: []api.Expr{app, x}}
		on = api.Expr{Kind: api.CaseE, Args: []api.Expr{x}, Alts: []api.Alt{{Pat: api.Pat{Kind: api.VarP, Name: "x"}, Body: x}, {Body: on}}}
	}
	checkFree(t, fn, "deep fn", []string{"y"})
	checkFree(t, let, "deep let", []string{"y"})
	checkFree(t, app, "deep application", []string{"y", "x"})
	checkFree(t, on, "deep case", []string{"x", "y"})
}
