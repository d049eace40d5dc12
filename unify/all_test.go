package unify

import (
	"maps"
	"testing"

	"reverie/api"
)

// smallTypes are all types of up to two lists' depth that may matter of t0 to t2, some names, and names of one and two parts.
func smallTypes() []api.Type {
	list := typsOf("t0 t1 t2 A B")
	flat := list
	for _, a := range flat {
		list = append(list, Of("L", a))
		for _, b := range flat {
			list = append(list, Of("P", a, b))
		}
	}
	return append(list, typ("(L A A)"), typ("(P A)"), typ("(L (L t0))"), typ("(L (L t1))"), typ("(P (L t0) t0)"), typ("(P (L t0) t1)"), typ("(P (L t1) (L t0))"), typ("(P t0 (P t1 t2))"), typ("(P (P t2 t1) t0)"), typ("(P t2 (L t1))"))
}

func typsOf(words string) []api.Type {
	whole := typ("(T " + words + ")")
	return whole.Args
}

// others are substitutions that stand for t0 to t2 and whose own types have none of these: some of all that there are.
func others() []Subst {
	is := append(typsOf("A B t3 t4"), typ("(L A)"), typ("(L t3)"), typ("(L (L A))"), typ("(P A A)"), typ("(P A B)"), typ("(P t3 t3)"), typ("(P t3 t4)"), typ("(P (L A) A)"), typ("(P A (P A A))"), typ("(P (L t3) (L (L t3)))"))
	var list []Subst
	for _, a := range is {
		for _, b := range is {
			for _, c := range is {
				list = append(list, Subst{0: a, 1: b, 2: c})
			}
		}
	}
	return list
}

// table has what each of the other substitutions makes of a type, by the type's place in a list.
type table struct {
	types  []api.Type
	others []Subst
	made   [][]string
}

func tableOf(types []api.Type, others []Subst) *table {
	t := &table{types: types, others: others}
	for _, x := range types {
		var row []string
		for _, o := range others {
			row = append(row, Text(meant(o, x)))
		}
		t.made = append(t.made, row)
	}
	return t
}

// fitting are those of the others that tell all that was told.
func (t *table) fitting(told Subst) []int {
	var list []int
	for i, o := range t.others {
		fits := true
		for n, is := range told {
			fits = fits && alike(meant(o, Var(n)), meant(o, is))
		}
		if fits {
			list = append(list, i)
		}
	}
	return list
}

// TestByWords holds what comes of all pairs of small types against the document's words: if another substitution tells what was told and makes the two one, they are made one, and what it makes of a type is what it makes of that which was made of the type; if not, and they are made one, they are.
func TestByWords(t *testing.T) {
	all := tableOf(smallTypes(), others())
	for _, told := range [][]string{{}, {"t0", "t1"}, {"t1", "t0"}, {"t0", "(L t1)"}, {"t2", "(P t0 t1)"}, {"t0", "t1", "t1", "(L t2)"}, {"t0", "(P t1 t1)", "t1", "(L t2)"}, {"t1", "A"}, {"t2", "t1", "t1", "t0"}, {"t0", "(L t2)", "t1", "(L t2)"}} {
		fitting := all.fitting(subst(told...))
		for i := range all.types {
			for j := range all.types {
				s := subst(told...)
				e := s.Unify(all.types[i], all.types[j])
				all.check(t, told, i, j, s, e, fitting)
			}
		}
	}
}

func (a *table) check(t *testing.T, told []string, i, j int, s Subst, e api.Errno, fitting []int) {
	t.Helper()
	x, y := a.types[i], a.types[j]
	if e == api.OK && !alike(meant(s, x), meant(s, y)) {
		t.Fatalf("%v: %s and %s aren't one by %v", told, Text(x), Text(y), s)
	}
	if want := solved(equations(told, x, y)); (e == api.OK) != (want != nil) || e != api.OK && e != api.ErrType {
		t.Fatalf("%v: %s and %s: %d, but %v", told, Text(x), Text(y), e, want)
	}
	checkTold(t, s, subst(told...))
	made := map[int]api.Type{}
	for n := range 3 {
		made[n] = s.Apply(Var(n))
	}
	for _, k := range fitting {
		if a.made[i][k] != a.made[j][k] {
			continue
		}
		if e != api.OK {
			t.Fatalf("%v: %s and %s: %d, but they are made one by %v", told, Text(x), Text(y), e, a.others[k])
		}
		for n, is := range made {
			if !alike(meant(a.others[k], Var(n)), meant(a.others[k], is)) {
				t.Fatalf("%v: %s and %s: %v isn't a most general one, as %v isn't made of it", told, Text(x), Text(y), s, a.others[k])
			}
		}
	}
}

// equations are all that was told, and the two types.
func equations(told []string, x, y api.Type) [][2]api.Type {
	var list [][2]api.Type
	for i := 0; i < len(told); i += 2 {
		list = append(list, [2]api.Type{typ(told[i]), typ(told[i+1])})
	}
	return append(list, [2]api.Type{x, y})
}

// solved is, of pairs of types, a most general substitution that makes each pair one, in the plainest way: each variable that is found is put into all that there is. It is nil, if there is none.
func solved(pairs [][2]api.Type) Subst {
	s := Subst{}
	for len(pairs) > 0 {
		a, b := meant(s, pairs[0][0]), meant(s, pairs[0][1])
		pairs = pairs[1:]
		if a.Var < 0 && b.Var >= 0 {
			a, b = b, a
		}
		switch {
		case alike(a, b):
		case a.Var >= 0:
			if has(b, a.Var) {
				return nil
			}
			for n, is := range maps.Clone(s) {
				s[n] = meant(Subst{a.Var: b}, is)
			}
			s[a.Var] = b
		case a.Name != b.Name || len(a.Args) != len(b.Args):
			return nil
		default:
			for i := range a.Args {
				pairs = append(pairs, [2]api.Type{a.Args[i], b.Args[i]})
			}
		}
	}
	return s
}

// has tells whether a variable is in a type.
func has(t api.Type, n int) bool {
	if t.Var == n {
		return true
	}
	for _, a := range t.Args {
		if t.Var < 0 && has(a, n) {
			return true
		}
	}
	return false
}
