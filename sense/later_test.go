package sense_test

import (
	"fmt"
	"strings"
	"testing"

	"reverie/api"
	"reverie/plain"
)

// The parts of programs such as layers 10 to 13 make.

func number(n int64) api.Expr { return api.Expr{Kind: api.IntE, Int: n} }

func name(n string) api.Expr { return api.Expr{Kind: api.VarE, Name: n} }

func con(n string, args ...api.Expr) api.Expr {
	return api.Expr{Kind: api.ConE, Name: n, Args: args}
}

func apply(args ...api.Expr) api.Expr { return api.Expr{Kind: api.AppE, Args: args} }

func prim(n string, args ...api.Expr) api.Expr {
	return api.Expr{Kind: api.PrimE, Name: n, Args: args}
}

func let1(n string, is, body api.Expr) api.Expr {
	return api.Expr{Kind: api.LetE, Names: []string{n}, Args: []api.Expr{is, body}}
}

func fail() api.Expr { return api.Expr{Kind: api.FailE} }

// flatCase looks at a name, and has two patterns.
func flatCase(of string, p api.Pat, then, other api.Expr) api.Expr {
	return api.Expr{Kind: api.CaseE, Args: []api.Expr{name(of)}, Alts: []api.Alt{{Pat: p, Body: then}, {Body: other}}}
}

func numberPat(n int64) api.Pat { return api.Pat{Kind: api.IntP, Int: n} }

func conPat(n string, names ...string) api.Pat {
	p := api.Pat{Kind: api.ConP, Name: n}
	for _, one := range names {
		p.Args = append(p.Args, api.Pat{Kind: api.VarP, Name: one})
	}
	return p
}

// checkBody asks for the outcome of a body of main, beside other definitions.
func checkBody(t *testing.T, body api.Expr, want string, defs ...api.Def) {
	t.Helper()
	p := api.Program{Datas: parsed(t, withMain("", "1")).Datas, Defs: append(defs, api.Def{Name: "main", Body: body})}
	told, c := plain.Run(p, 100000)
	if told != want {
		t.Fatalf("the plain way says %s, the test %s", told, want)
	}
	checkFuel(t, p, want, c)
}

func TestFail(t *testing.T) {
	checkBody(t, fail(), noMatch)
	checkBody(t, prim("+", number(1), fail()), noMatch)
	checkBody(t, prim("+", fail(), prim("/", number(1), number(0))), noMatch)
	checkBody(t, prim("+", prim("/", number(1), number(0)), fail()), noDiv)
	checkBody(t, con("P", number(1), fail()), noMatch)
	checkBody(t, let1("A.1", fail(), number(1)), "1")
	checkBody(t, let1("A.1", fail(), name("A.1")), noMatch)
	checkBody(t, let1("A.1", fail(), con("Box", name("A.1"))), noMatch)
	checkBody(t, apply(name("F.1"), fail()), "7", api.Def{Name: "F.1", Params: []string{"x"}, Body: number(7)})
	checkBody(t, apply(name("F.1"), fail()), noMatch, api.Def{Name: "F.1", Params: []string{"x"}, Body: name("x")})
	checkBody(t, apply(fail(), number(1)), noMatch)
	checkBody(t, let1("M.1", number(1), flatCase("M.1", numberPat(1), number(5), fail())), "5")
	checkBody(t, let1("M.1", number(2), flatCase("M.1", numberPat(1), number(5), fail())), noMatch)
	checkBody(t, let1("M.1", fail(), flatCase("M.1", numberPat(1), number(5), number(6))), noMatch)
	checkBody(t, let1("M.f", fail(), let1("M.1", number(2), flatCase("M.1", numberPat(1), number(5), name("M.f")))), noMatch)
}

// TestFlat has the flat form of (case x ((Just 1) 5) (_ 6)), and of other patterns in patterns.
func TestFlat(t *testing.T) {
	just := func(x api.Expr) api.Expr {
		return let1("M.1", x, let1("M.2", number(6), flatCase("M.1", conPat("Just", "M.3"), flatCase("M.3", numberPat(1), number(5), name("M.2")), name("M.2"))))
	}
	checkBody(t, just(con("Just", number(1))), "5")
	checkBody(t, just(con("Just", number(2))), "6")
	checkBody(t, just(con("No")), "6")
	checkBody(t, just(con("Just", fail())), noMatch)
	checkBody(t, just(name("M.0")), noDiv, api.Def{Name: "M.0", Body: con("Just", prim("%", number(1), number(0)))})
	both := func(x api.Expr) api.Expr { // (case x ((P 1 (P a 2)) a))
		return let1("M.1", x, flatCase("M.1", conPat("P", "M.2", "M.3"), flatCase("M.2", numberPat(1), flatCase("M.3", conPat("P", "M.4", "M.5"), flatCase("M.5", numberPat(2), name("M.4"), fail()), fail()), fail()), fail()))
	}
	checkBody(t, both(con("P", number(1), con("P", number(7), number(2)))), "7")
	checkBody(t, both(con("P", number(1), con("P", number(7), number(3)))), noMatch)
	checkBody(t, both(con("P", number(2), fail())), noMatch)
	checkBody(t, both(con("P", number(1), con("P", prim("/", number(1), number(0)), number(2)))), noDiv)
	checkBody(t, let1("b.1", prim("=", number(1), number(1)), flatCase("b.1", conPat("True"), number(5), number(6))), "5")
	checkBody(t, let1("b.1", prim("=", number(1), number(2)), flatCase("b.1", conPat("True"), number(5), number(6))), "6")
	checkBody(t, let1("b.1", prim("<", number(1), number(2)), flatCase("b.1", conPat("False"), number(5), number(6))), "6")
}

// TestLifted has functions in functions as definitions, applied to the names that they use.
func TestLifted(t *testing.T) {
	inner := api.Def{Name: "F.1", Params: []string{"x", "y"}, Body: prim("-", name("x"), name("y"))}
	outer := api.Def{Name: "f", Params: []string{"x"}, Body: apply(name("F.1"), name("x"))}
	checkBody(t, apply(name("f"), number(10), number(3)), "7", outer, inner)
	checkBody(t, let1("g", apply(name("f"), number(10)), con("P", apply(name("g"), number(1)), apply(name("g"), number(2)))), "(P 9 8)", outer, inner)
	checkBody(t, apply(name("F.1"), number(10), number(3)), "7", inner)
	alone := api.Def{Name: "F.2", Params: []string{"x"}, Body: prim("+", name("x"), number(1))}
	checkBody(t, let1("g", name("F.2"), apply(name("g"), apply(name("g"), number(1)))), "3", alone)
	ring := api.Def{Name: "F.3", Params: []string{"g", "n"}, Body: flatCase("n", numberPat(0), number(7), apply(name("g"), prim("-", name("n"), number(1))))}
	checkBody(t, let1("g", apply(name("F.3"), name("g")), apply(name("g"), number(50))), "7", ring)
}

// TestManyParameters has definitions with more parameters than a text's, given in all ways some at once.
func TestManyParameters(t *testing.T) {
	for _, most := range []int{9, 16, 59} {
		d := api.Def{Name: "F.1", Body: number(0)}
		args, want := []api.Expr{name("F.1")}, int64(0)
		for i := range most {
			n := fmt.Sprint("x.", i)
			d.Params = append(d.Params, n)
			d.Body = prim("+", prim("*", number(int64(i)), name(n)), d.Body)
			args = append(args, number(int64(100*i+1)))
			want += int64(i * (100*i + 1))
		}
		checkBody(t, apply(args...), fmt.Sprint(want), d)
		for first := 1; first < most; first++ {
			some := apply(args[:first+1]...)
			checkBody(t, apply(append([]api.Expr{some}, args[first+1:]...)...), fmt.Sprint(want), d)
		}
		one := args[0]
		for _, a := range args[1:] {
			one = apply(one, a)
		}
		checkBody(t, one, fmt.Sprint(want), d)
	}
}

// TestManyDefinitions has more of them than a text may have, deeper lets, and more names in one let.
func TestManyDefinitions(t *testing.T) {
	var defs []api.Def
	for i := range 1000 {
		defs = append(defs, api.Def{Name: fmt.Sprint("F.", i), Params: []string{"x"}, Body: apply(name(fmt.Sprint("F.", i+1)), prim("+", name("x"), number(1)))})
	}
	defs = append(defs, api.Def{Name: "F.1000", Params: []string{"x"}, Body: name("x")})
	checkBody(t, apply(name("F.0"), number(5)), "1005", defs...)
	body := name("A.0")
	wide := api.Expr{Kind: api.LetE}
	for i := range 1000 {
		n, next := fmt.Sprint("A.", i), fmt.Sprint("A.", i+1)
		body = let1(n, prim("+", name(next), number(1)), body)
		wide.Names, wide.Args = append(wide.Names, n), append(wide.Args, prim("+", name(next), number(1)))
	}
	checkBody(t, let1("A.1000", number(5), body), "1005")
	wide.Names, wide.Args = append(wide.Names, "A.1000"), append(wide.Args, number(5), name("A.0"))
	checkBody(t, wide, "1005")
	deep := name("x")
	for range 2000 {
		deep = let1("y", deep, prim("+", name("y"), number(1)))
	}
	checkBody(t, let1("x", number(5), deep), "2005")
}

// TestDoublePoints: names with points in them are no others.
func TestDoublePoints(t *testing.T) {
	checkBody(t, let1("x", number(1), let1("x.", number(2), let1("x.1", number(3), let1(".x", number(4), con("E", name("x"), name("x."), name("x.1"), name(".x"), number(0), number(0), number(0), number(0)))))), "(E 1 2 3 4 0 0 0 0)")
	long := strings.Repeat("M.", 1000)
	checkBody(t, let1(long+"1", number(1), let1(long+"2", number(2), prim("-", name(long+"1"), name(long+"2")))), "-1")
}
