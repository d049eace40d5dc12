package parts_test

import (
	"slices"
	"strings"
	"testing"

	"reverie/api"
	"reverie/made"
	"reverie/parts"
	"reverie/show"
)

// read is a program whose names hold.
func read(t *testing.T, s string) api.Program {
	t.Helper()
	p, wrong := made.Named(s)
	if wrong != "" {
		t.Fatal(wrong)
	}
	return p
}

// TestEach: the parts come from left to right, and what was handed in stays, also what lies behind its length.
func TestEach(t *testing.T) {
	list := []string{"a", "b", "c"}
	came := ""
	got := parts.Each(list[:2], func(s string) string {
		came += s
		return s + s
	})
	if !slices.Equal(got, []string{"aa", "bb"}) || came != "ab" || !slices.Equal(list, []string{"a", "b", "c"}) {
		t.Error(got, came, list)
	}
	if _ = append(got, "d"); list[2] != "c" || len(parts.Each(nil, strings.ToUpper)) != 0 {
		t.Error("the list was handed on", list)
	}
}

// TestInBodies has what comes of bodies, and of expressions in these, one level in.
func TestInBodies(t *testing.T) {
	p := read(t, "(data T () (A) (B T)) (def f (x y) (let ((z (x 1)) (v A)) (case (z v) ((B w) (w x)) (_ (fn (u) (y u)))))) (def main () (+ 1 (+ 2 3)))")
	was := made.Copied(p)
	in := func(x api.Expr) api.Expr { return api.Expr{Kind: api.VarE, Name: "i" + string("NVCFLcAPf"[x.Kind])} }
	for _, row := range []struct {
		name, want string
		of         func(api.Expr) api.Expr
	}{
		{"bodies", "(def f (x y) iL)\n(def main () iP)\n", in},
		{"in bodies", "(def f (x y) (let ((z iA) (v iC)) ic))\n(def main () (+ iN iP))\n", func(x api.Expr) api.Expr { return parts.InExpr(x, in) }},
		{"in what these have last", "(def f (x y) (let ((z (iV iN)) (v A)) (case iA ((B w) iA) (_ iF))))\n(def main () (+ 1 (+ iN iN)))\n", func(x api.Expr) api.Expr {
			return parts.InExpr(x, func(x api.Expr) api.Expr { return parts.InExpr(x, in) })
		}},
	} {
		q := parts.InBodies(p, row.of)
		if got := show.Program(q); got != "(data T () (A) (B T))\n"+row.want || !made.Equal(p, was) {
			t.Errorf("%s: %s%s", row.name, got, show.Program(p))
		}
		q.Datas[0].Name, q.Defs[0].Name, q.Defs[0].Params[0] = "turned", "turned", "turned"
		if !made.Equal(p, was) {
			t.Error(row.name, "are handed on")
		}
	}
}

// TestNamer has each name of a program like a new one, in turn.
func TestNamer(t *testing.T) {
	const s = "(data T () (A) (B T)) (def f (a) (let ((b a)) (case b ((B (B c)) (fn (d) (d c))) (_ 1)))) (def main () 1)"
	p := read(t, s)
	n := parts.NewNamer("N", p)
	if got := n.Name() + " " + n.Name() + " " + n.Name(); got != "N.1 N.2 N.3" {
		t.Error(got)
	}
	for _, name := range []string{"a", "b", "c", "d"} {
		n := parts.NewNamer("N", made.Renamed(p, map[string]string{name: "N.2"}))
		if got := n.Name() + " " + n.Name() + " " + n.Name(); got != "N.1 N.3 N.4" {
			t.Error(name, got)
		}
	}
	p.Defs[1].Name = "N.1"
	p.Defs = append(p.Defs, api.Def{Name: "g", Body: api.Expr{Kind: api.ConE, Name: "N.2", Args: []api.Expr{{Kind: api.VarE, Name: "N.4"}}}})
	n = parts.NewNamer("N", p)
	if got := n.Name() + " " + n.Name() + " " + n.Name(); got != "N.3 N.5 N.6" {
		t.Error(got)
	}
}
