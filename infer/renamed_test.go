package infer

import (
	"fmt"
	"maps"
	"slices"
	"strings"
	"testing"

	"reverie/api"
	"reverie/parse"
	"reverie/show"
)

// renamer gives other names to all that is bound, main alone keeping its own. It takes each from pick, that is told of names which a part uses from outside of it; none of these may be taken.
type renamer struct {
	pick func(taken []string) string
}

// called tells by what names those that hold are called now.
type called map[string]string

// taken are the names by which those are called now that hold and are used in expressions.
func (s called) taken(exprs []api.Expr, but []string) (list []string) {
	for was, now := range s {
		if !slices.Contains(but, was) && slices.ContainsFunc(exprs, func(x api.Expr) bool { return uses(x, was) }) {
			list = append(list, now)
		}
	}
	slices.Sort(list)
	return list
}

// bind calls names otherwise where expressions use them.
func (r renamer) bind(names []string, exprs []api.Expr, s called) (inner called, list []string) {
	taken := s.taken(exprs, names)
	inner = maps.Clone(s)
	for _, n := range names {
		now := r.pick(taken)
		taken, list, inner[n] = append(taken, now), append(list, now), now
	}
	return inner, list
}

func (r renamer) expr(x api.Expr, s called) api.Expr {
	args := s
	switch x.Kind {
	case api.VarE:
		x.Name = s[x.Name]
	case api.FnE, api.LetE:
		args, x.Names = r.bind(x.Names, x.Args, s)
	}
	x.Args = slices.Clone(x.Args)
	for i, a := range x.Args {
		x.Args[i] = r.expr(a, args)
	}
	x.Alts = slices.Clone(x.Alts)
	for i, a := range x.Alts {
		inner, _ := r.bind(patNames(a.Pat), []api.Expr{a.Body}, s)
		x.Alts[i] = api.Alt{Pat: patBy(a.Pat, inner), Body: r.expr(a.Body, inner)}
	}
	return x
}

func patBy(p api.Pat, s called) api.Pat {
	if p.Kind == api.VarP {
		p.Name = s[p.Name]
	}
	p.Args = slices.Clone(p.Args)
	for i, a := range p.Args {
		p.Args[i] = patBy(a, s)
	}
	return p
}

func typeBy(t api.TypeE, s called) api.TypeE {
	if now, ok := s[t.Name]; ok {
		t.Name = now
	}
	t.Args = slices.Clone(t.Args)
	for i, a := range t.Args {
		t.Args[i] = typeBy(a, s)
	}
	return t
}

func (r renamer) data(d api.Data) api.Data {
	s, params := r.bind(d.Params, nil, called{})
	d.Params, d.Cons = params, slices.Clone(d.Cons)
	for i, k := range d.Cons {
		fields := slices.Clone(k.Fields)
		for j, f := range fields {
			fields[j] = typeBy(f, s)
		}
		d.Cons[i].Fields = fields
	}
	return d
}

func (r renamer) program(p api.Program) (other api.Program) {
	for _, d := range p.Datas {
		other.Datas = append(other.Datas, r.data(d))
	}
	s, taken := called{"main": "main"}, []string{"main"}
	for _, d := range p.Defs {
		if d.Name != "main" {
			s[d.Name] = r.pick(taken)
			taken = append(taken, s[d.Name])
		}
	}
	for _, d := range p.Defs {
		inner, params := r.bind(d.Params, []api.Expr{d.Body}, s)
		other.Defs = append(other.Defs, api.Def{Name: s[d.Name], Params: params, Body: r.expr(d.Body, inner)})
	}
	return other
}

// pickers pick names that are all different; as few as can be; and few that are, or look like, those that stand for something elsewhere.
func pickers() map[string]func(taken []string) string {
	last := 0
	least := func(list []string) func(taken []string) string {
		return func(taken []string) string {
			for i := 0; ; i++ {
				n := fmt.Sprint("q", i)
				if i < len(list) {
					n = list[i]
				}
				if !slices.Contains(taken, n) {
					return n
				}
			}
		}
	}
	return map[string]func(taken []string) string{
		"new": func([]string) string { last++; return fmt.Sprint("w", last) },
		"few": least(nil),
		"odd": least([]string{"x", "int", "true", "t0", "f"}),
		"low": least([]string{"main", "f", "g", "x", "y"}),
	}
}

// told is an answer, with the number of a definition for its place.
func told(t *testing.T, p api.Program) string {
	t.Helper()
	got := answer(t, p)
	for i, d := range p.Defs {
		if got == fmt.Sprint("none at ", d.Pos) {
			return fmt.Sprint("none of definition ", i)
		}
	}
	return got
}

// checkRenamed asks for the same answer of programs with other names, in texts of their own.
func checkRenamed(t *testing.T, p api.Program) (held int) {
	t.Helper()
	want := told(t, p)
	for what, pick := range pickers() {
		s := show.Program(renamer{pick}.program(p))
		if len(s) > api.MaxSource {
			continue
		}
		if _, pos, e := parse.Program([]byte(s)); e != api.OK {
			t.Fatalf("%s: no program: %d at %d", s, e, pos)
		}
		if got := told(t, parsed(t, s)); got != want {
			t.Fatalf("%s, with %s names: %s: %s, not %s", show.Program(p), what, s, got, want)
		}
		held++
	}
	return held
}

func TestOtherNames(t *testing.T) {
	for _, s := range []string{
		"(def twice (f x) (f (f x))) (def main () 1)", "(def main () (fn (x) x))", "(data T (a b) (C b (T b a)) (D a)) (def f (x y) (case x ((C x z) (C y z)) (z z))) (def main () (f (D 1) 2))",
		"(def a (x) (b x)) (def b (x) (let ((x x) (y x)) (+ (a y) True))) (def main () 1)", "(def f (main f) (fn (x) (main (f x)))) (def main () (f (fn (x) 1) (fn (x) x) main))",
	} {
		if checkRenamed(t, parsed(t, s)) != 4 {
			t.Error("not all names were held:", s)
		}
	}
}

// TestOtherNamesOfMadePrograms has programs with types, and without.
func TestOtherNamesOfMadePrograms(t *testing.T) {
	t.Parallel()
	held, right := 0, 0
	for i := range 600 {
		if p, ok := made(t, 100000+i, []int{100, 400, 4000}[i%3]); ok {
			held += checkRenamed(t, p)
			if !strings.HasPrefix(answer(t, p), "none") {
				right++
			}
		}
	}
	if held < 2000 || right < 300 {
		t.Error("too few programs were held:", held, right)
	}
}
