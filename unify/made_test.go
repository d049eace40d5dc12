package unify

import (
	"maps"
	"math"
	"slices"
	"strconv"
	"testing"

	"reverie/api"
)

// made makes types by a short rule.
type made struct {
	state uint32
	vars  int
}

// some is a number below n.
func (m *made) some(n int) int {
	m.state = m.state*1664525 + 1013904223
	return int(m.state>>8) % n
}

// typ is a type at most so deep.
func (m *made) typ(deep int) api.Type {
	kind := m.some(12)
	switch {
	case kind < 4 || deep == 0 && kind < 9:
		return Var(m.some(m.vars))
	case kind < 6 || deep == 0:
		return Of([]string{"A", "B"}[m.some(8)/7])
	case kind < 8:
		return Of("L", m.typ(deep-1))
	case kind < 11:
		return Fn(m.typ(deep-1), m.typ(deep-1))
	}
	return Of("T", m.typ(deep-1), m.typ(deep-1), m.typ(deep-1))
}

// near is a type with some parts put elsewhere by variables, so that it and the type are often made one.
func (m *made) near(t api.Type) api.Type {
	if m.some(5) == 0 {
		return Var(m.some(m.vars))
	}
	if t.Var >= 0 {
		if m.some(3) == 0 {
			return m.typ(1)
		}
		return t
	}
	args := slices.Clone(t.Args)
	for i, a := range args {
		args[i] = m.near(a)
	}
	return Of(t.Name, args...)
}

func (m *made) pair() (api.Type, api.Type) {
	a := m.typ(1 + m.some(4))
	if m.some(3) == 0 {
		return a, m.typ(1 + m.some(4))
	}
	return a, m.near(a)
}

// all is a type of all variables, so that what is made of it tells what each stands for.
func (m *made) all() api.Type {
	var list []api.Type
	for n := range m.vars {
		list = append(list, Var(n))
	}
	return Of("All", list...)
}

// renamed is a type whose variables have the numbers of their turns, by the document's words.
func renamed(t api.Type, numbers map[int]int) api.Type {
	if t.Var >= 0 {
		if _, ok := numbers[t.Var]; !ok {
			numbers[t.Var] = len(numbers)
		}
		return api.Type{Var: numbers[t.Var]}
	}
	args := slices.Clone(t.Args)
	for i, a := range args {
		args[i] = renamed(a, numbers)
	}
	return api.Type{Var: -1, Name: t.Name, Args: args}
}

func textOf(t api.Type) string {
	if t.Var >= 0 {
		return "t" + strconv.Itoa(t.Var)
	}
	if len(t.Args) == 0 {
		return t.Name
	}
	text := "(" + t.Name
	for _, a := range t.Args {
		text += " " + textOf(a)
	}
	return text + ")"
}

func varsOf(t api.Type) []int {
	var list []int
	if t.Var >= 0 {
		return []int{t.Var}
	}
	for _, a := range t.Args {
		for _, n := range varsOf(a) {
			if !slices.Contains(list, n) {
				list = append(list, n)
			}
		}
	}
	return list
}

// TestMadeTypes holds each function against the document's words, of made types.
func TestMadeTypes(t *testing.T) {
	m := &made{state: 6, vars: 9}
	for range 20000 {
		x := m.typ(m.some(6))
		if got := Text(x); got != textOf(x) {
			t.Fatalf("%v: text %q", x, got)
		}
		if got := Vars(x); !slices.Equal(got, varsOf(x)) {
			t.Fatalf("%s: variables %v", Text(x), got)
		}
		if got := Canon(x); !exactly(got, renamed(x, map[int]int{})) {
			t.Fatalf("%s: %s", Text(x), Text(got))
		}
		if got := Canon(Canon(x)); !exactly(got, Canon(x)) {
			t.Fatalf("%s: twice %s", Text(x), Text(got))
		}
		s := m.subst()
		asIt := unchanged(t, Text(x), s, x)
		if got := s.Apply(x); !exactly(got, meant(s, x)) || !exactly(s.Apply(got), got) {
			t.Fatalf("%v: %s: %s", s, Text(x), Text(got))
		}
		n := parts(meant(s, x))
		for _, most := range []int{0, 1, m.some(20), n - 1, n, n + 1, math.MaxInt} {
			if got := s.Size(x, most); got != n && n <= most || n > most && got != most+1 {
				t.Fatalf("%v: %s has %d parts, and of at most %d %d", s, Text(x), n, most, got)
			}
		}
		asIt()
	}
}

// subst stands for some variables, by turns of them, so that none stands for what it is in.
func (m *made) subst() Subst {
	s := Subst{}
	turns := make([]int, m.vars)
	for i := range turns {
		turns[i] = i
		j := m.some(i + 1)
		turns[i], turns[j] = turns[j], turns[i]
	}
	for i, n := range turns[1:] {
		if m.some(2) == 0 {
			stands := Subst{}
			for j := range m.vars {
				stands[j+m.vars] = Var(turns[m.some(i+1)])
			}
			far := &made{state: m.state, vars: m.vars}
			s[n] = meant(stands, shifted(far.typ(m.some(3)), m.vars))
			m.state = far.state
		}
	}
	return s
}

// shifted is a type whose variables' numbers are so much greater.
func shifted(t api.Type, by int) api.Type {
	if t.Var >= 0 {
		return Var(t.Var + by)
	}
	args := slices.Clone(t.Args)
	for i, a := range args {
		args[i] = shifted(a, by)
	}
	return Of(t.Name, args...)
}

// TestMadePairs tells substitutions of made pairs, one behind the other, each way round, and holds what they tell against the plainest way.
func TestMadePairs(t *testing.T) {
	m := &made{state: 66, vars: 7}
	one, not := 0, 0
	for range 6000 {
		s := Subst{}
		var pairs [][2]api.Type
		for range 1 + m.some(5) {
			a, b := m.pair()
			if m.some(2) == 0 {
				a, b = b, a
			}
			e := checkMade(t, m, s, pairs, a, b)
			if e == api.OK {
				one++
				pairs = append(pairs, [2]api.Type{a, b})
			} else {
				not++
			}
		}
	}
	if one < 3000 || not < 3000 {
		t.Errorf("%d pairs are one, %d are not: too few of one kind", one, not)
	}
}

// checkMade makes a pair one in s, behind others.
func checkMade(t *testing.T, m *made, s Subst, pairs [][2]api.Type, a, b api.Type) api.Errno {
	t.Helper()
	was, turned := maps.Clone(s), maps.Clone(s)
	asIt := unchanged(t, "pair", was, a, b)
	e := s.Unify(a, b)
	asIt()
	want := solved(append(slices.Clone(pairs), [2]api.Type{a, b}))
	if (e == api.OK) != (want != nil) || e != api.OK && e != api.ErrType {
		t.Fatalf("%v: %s and %s: %d, but %v", was, Text(a), Text(b), e, want)
	}
	if other := turned.Unify(b, a); other != e {
		t.Fatalf("%v: %s and %s: %d, and %d the other way round", was, Text(a), Text(b), e, other)
	}
	checkTold(t, s, was)
	if e != api.OK {
		if !maps.EqualFunc(s, was, exactly) {
			t.Fatalf("%v: %s and %s aren't one, but more is told: %v", was, Text(a), Text(b), s)
		}
		return e
	}
	if !exactly(s.Apply(a), s.Apply(b)) || !exactly(turned.Apply(a), turned.Apply(b)) {
		t.Fatalf("%v: %s and %s aren't one by %v", was, Text(a), Text(b), s)
	}
	general := renamed(meant(want, m.all()), map[int]int{})
	if !exactly(Canon(s.Apply(m.all())), general) || !exactly(Canon(turned.Apply(m.all())), general) {
		t.Fatalf("%v: %s and %s: %v isn't as general as %v", was, Text(a), Text(b), s, want)
	}
	checkWithin(t, was, s, a, b)
	return e
}

// checkWithin makes a pair one that can be, with just as many parts as it has, more, and fewer.
func checkWithin(t *testing.T, was, is Subst, a, b api.Type) {
	t.Helper()
	n := parts(meant(is, a))
	for _, most := range []int{0, 1, n / 2, n - 1, n, n + 1, 2 * n, math.MaxInt} {
		s := maps.Clone(was)
		e := s.Within(a, b, most)
		if n > most && (e != api.ErrType || !maps.EqualFunc(s, was, exactly)) {
			t.Fatalf("%v: %s and %s, %d parts, within %d: %d %v", was, Text(a), Text(b), n, most, e, s)
		}
		if n <= most && (e != api.OK || !maps.EqualFunc(s, is, exactly)) {
			t.Fatalf("%v: %s and %s, %d parts, within %d: %d %v, not %v", was, Text(a), Text(b), n, most, e, s, is)
		}
	}
}
