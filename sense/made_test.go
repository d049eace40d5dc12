package sense_test

import (
	"strings"
	"testing"

	"reverie/api"
	"reverie/plain"
	"reverie/show"
)

// TestMadePrograms holds programs against the plain way, and asks how their outcomes hang on fuel.
func TestMadePrograms(t *testing.T) {
	t.Parallel()
	const most = 20000
	kinds, texts := map[string]int{}, map[string]int{}
	for i := range 2500 {
		p, ok := madeProgram(t, i, []int{20, 60, 200, 1000}[i%4])
		if !ok {
			continue
		}
		want, c := plain.Run(p, most)
		if want == "" { // it takes more words than these
			if got := answer(t, p, most); got != noFuel {
				t.Fatalf("%s: %s, not %s", show.Program(p), got, noFuel)
			}
			continue
		}
		checkFuel(t, p, want, c)
		texts[want]++
		if !strings.HasPrefix(want, "error") {
			want = "a tree"
		}
		kinds[want]++
	}
	if kinds["a tree"] < 800 || kinds[noDiv] < 100 || kinds[noMatch] < 200 || kinds[loop] < 200 || len(texts) < 200 {
		t.Error("too few programs of a kind were held:", kinds, len(texts))
	}
}

// TestMoreFuel has programs with each number of fuel, from none on: once an outcome comes, that stays.
func TestMoreFuel(t *testing.T) {
	t.Parallel()
	held := 0
	for i := range 400 {
		p, ok := madeProgram(t, 100000+i, []int{20, 60, 200}[i%3])
		if !ok {
			continue
		}
		want, c := plain.Run(p, 300)
		if want == "" {
			continue
		}
		held++
		fuel := -3
		for ; fuel < c.Least() || answer(t, p, fuel) == noFuel; fuel++ {
			if got := answer(t, p, fuel); got != noFuel || fuel > 40*c.Greatest() {
				t.Fatalf("%s: %s with %d of fuel, for %d words at least, %d at most", show.Program(p), got, fuel, c.Least(), c.Greatest())
			}
		}
		for more := range 200 {
			if got := answer(t, p, fuel+more); got != want {
				t.Fatalf("%s: %s with %d of fuel, and %s with %d", show.Program(p), want, fuel, got, fuel+more)
			}
		}
	}
	if held < 200 {
		t.Error("too few programs were held:", held)
	}
}

// later is a program with other names, such as no text has, and with FailE where no pattern fits.
func later(p api.Program) api.Program {
	q := api.Program{Datas: p.Datas}
	for _, d := range p.Defs {
		if d.Name != "main" {
			d.Name = other(d.Name)
		}
		q.Defs = append(q.Defs, api.Def{Name: d.Name, Params: others(d.Params), Body: laterExpr(d.Body)})
	}
	return q
}

func other(name string) string { return "M." + name + ".1" }

func others(names []string) (list []string) {
	for _, n := range names {
		list = append(list, other(n))
	}
	return list
}

func laterExpr(x api.Expr) api.Expr {
	if x.Names = others(x.Names); x.Kind == api.VarE {
		x.Name = other(x.Name)
	}
	var args []api.Expr
	for _, a := range x.Args {
		args = append(args, laterExpr(a))
	}
	var alts []api.Alt
	for _, a := range x.Alts {
		alts = append(alts, api.Alt{Pat: laterPat(a.Pat), Body: laterExpr(a.Body)})
	}
	if x.Kind == api.CaseE {
		alts = append(alts, api.Alt{Body: api.Expr{Kind: api.FailE}})
	}
	x.Args, x.Alts = args, alts
	return x
}

func laterPat(p api.Pat) api.Pat {
	if p.Kind == api.VarP {
		p.Name = other(p.Name)
	}
	var args []api.Pat
	for _, a := range p.Args {
		args = append(args, laterPat(a))
	}
	p.Args = args
	return p
}

// TestMadeLater has programs as later layers make them: what they mean hangs neither on names nor on FailE.
func TestMadeLater(t *testing.T) {
	t.Parallel()
	held := 0
	for i := range 500 {
		p, ok := madeProgram(t, 200000+i, []int{20, 60, 200}[i%3])
		if !ok {
			continue
		}
		want, c := plain.Run(p, 20000)
		if want == "" {
			continue
		}
		held++
		if got := answer(t, later(p), 80*c.Greatest()); got != want {
			t.Fatalf("%s: %s, but later %s", show.Program(p), want, got)
		}
	}
	if held < 300 {
		t.Error("too few programs were held:", held)
	}
}
