package made

import (
	"slices"
	"strconv"
	"strings"
)

// The types for which a maker makes expressions.
const (
	ints  = 'I'
	bools = 'B'
	cpxs  = 'C'
	lists = 'L' // of numbers
	pairs = 'P' // of a number and a list
	mays  = 'M' // of a number
	funs  = 'F' // from a number to a number
	funs2 = 'G' // from two numbers to a number
)

type maker struct {
	Rule
	numbers
	last  int // the last new name's number
	holds []known
}

// known is a name that holds, and for which type it was made.
type known struct {
	name string
	is   rune
}

// number is the text of one of n numbers, from least on.
func (m *maker) number(n, least int) string { return strconv.Itoa(m.some(n) + least) }

func (m *maker) one(of string) rune { return rune(of[m.some(len(of))]) }

// name is one of few, or a new one.
func (m *maker) name() string {
	if m.some(3) == 0 {
		return []string{"x", "y", "f", "l"}[m.some(4)]
	}
	m.last++
	return "n" + strconv.Itoa(m.last)
}

// with is what make makes while names hold.
func (m *maker) with(list []known, make func() string) string {
	outer := len(m.holds)
	m.holds = append(m.holds, list...)
	s := make()
	m.holds = m.holds[:outer]
	return s
}

// found is a name that holds and was made for a type.
func (m *maker) found(is rune) (string, bool) {
	var list []string
	hidden := map[string]int{}
	for _, h := range slices.Backward(m.holds) {
		if hidden[h.name]++; hidden[h.name] == 1 && h.is == is {
			list = append(list, h.name)
		}
	}
	if len(list) == 0 {
		return "", false
	}
	return list[m.some(len(list))], true
}

// expr is an expression of a type.
func (m *maker) expr(is rune, deep int) string {
	if m.some(m.Odd) == 0 {
		return m.oddOne(is)
	}
	if n, ok := m.found(is); ok && (deep <= 0 || m.some(4) == 0) {
		return n
	}
	if deep <= 0 {
		return m.small(is)
	}
	switch m.some(10) {
	case 0, 1:
		return m.let(is, deep)
	case 2, 3:
		return m.caseOf(is, deep)
	case 4:
		return m.call(is, deep)
	case 5:
		return m.through(is, deep)
	}
	return m.whole(is, deep)
}

// oddOne is an expression without a value, or one that may have none.
func (m *maker) oddOne(is rune) string {
	switch m.some(4) {
	case 0:
		return "(let ((x x)) x)"
	case 1:
		return "(case 1 (2 " + m.small(is) + "))"
	case 2:
		return "(case (/ 1 0) (0 " + m.small(is) + ") (_ " + m.small(is) + "))"
	}
	n := m.name()
	return "(let ((" + n + " " + m.with([]known{{n, is}}, func() string { return m.expr(is, 2) }) + ")) " + n + ")"
}

func (m *maker) small(is rune) string {
	switch is {
	case bools:
		return []string{"True", "False"}[m.some(2)]
	case cpxs:
		return "(cpx " + m.number(9, -4) + " " + m.number(9, -4) + ")"
	case lists:
		return []string{"Nil", "(Cons 3 Nil)", "(up 1 4)"}[m.some(3)]
	case pairs:
		return "(P 2 (Cons 1 Nil))"
	case mays:
		return []string{"No", "(Just 1)"}[m.some(2)]
	case funs:
		return []string{"id", "(k 2)", "(fn (x) (* x 2))"}[m.some(3)]
	case funs2:
		return []string{"k", "(fn (x y) (- x y))", "(fn (x) (fn (y) (+ x y)))"}[m.some(3)]
	}
	return m.number(9, -2)
}

// whole is an expression that is made of some parts, as its type has it.
func (m *maker) whole(is rune, deep int) string {
	one := func(is rune) string { return m.expr(is, deep-1) }
	two := func(is, other rune) string { return " " + one(is) + " " + one(other) + ")" }
	switch is {
	case bools:
		return []string{"(=", "(<"}[m.some(2)] + two(ints, ints)
	case cpxs:
		if m.some(2) == 0 {
			return "(cpx" + two(ints, ints)
		}
		return []string{"(cadd", "(cmul"}[m.some(2)] + two(cpxs, cpxs)
	case lists:
		return []string{"(Cons" + two(ints, lists), "(snd " + one(pairs) + ")", "(Cons" + two(ints, lists)}[m.some(3)]
	case pairs:
		return "(P" + two(ints, lists)
	case mays:
		return "(Just " + one(ints) + ")"
	case funs:
		if m.some(2) == 0 {
			return "(" + one(funs2) + " " + one(ints) + ")"
		}
		return m.function([]rune{ints}, ints, deep)
	case funs2:
		if m.some(2) == 0 {
			return m.function([]rune{ints}, funs, deep)
		}
		return m.function([]rune{ints, ints}, ints, deep)
	}
	switch m.some(8) {
	case 0:
		return "(" + []string{"re", "im"}[m.some(2)] + " " + one(cpxs) + ")"
	case 1:
		return "(sum " + one(lists) + ")"
	case 2:
		return "(" + one(funs) + " " + one(ints) + ")"
	case 3:
		return "(" + one(funs2) + two(ints, ints)
	case 4:
		return "(fst " + one(pairs) + ")"
	}
	return "(" + strings.Fields("+ - * / % + -")[m.some(7)] + two(ints, ints)
}

// function is one of parameters, and of what is made with these.
func (m *maker) function(takes []rune, makes rune, deep int) string {
	var list []known
	var names []string
	for _, is := range takes {
		n := m.name()
		for slices.Contains(names, n) {
			n = m.name()
		}
		list, names = append(list, known{n, is}), append(names, n)
	}
	return "(fn (" + strings.Join(names, " ") + ") " + m.with(list, func() string { return m.expr(makes, deep-1) }) + ")"
}

func (m *maker) let(is rune, deep int) string {
	var list []known
	for range 1 + m.some(3) {
		n := m.name()
		if !slices.ContainsFunc(list, func(h known) bool { return h.name == n }) {
			list = append(list, known{n, m.one("IIIBCLLPMFG")})
		}
	}
	rings := m.some(4) == 0 // whether the names may use each other, in all ways
	s := "(let ("
	for i, h := range list {
		holds := slices.Clone(list)
		for j := i; j < len(list) && !rings; j++ {
			holds[j].is = 0 // it hides what holds outside, and isn't used
		}
		s += "(" + h.name + " " + m.with(holds, func() string { return m.expr(h.is, deep-1) }) + ")"
	}
	return s + ") " + m.with(list, func() string { return m.expr(is, deep-1) }) + ")"
}

func (m *maker) caseOf(is rune, deep int) string {
	looked := m.one("IIBLLPMFC")
	s := "(case " + m.expr(looked, deep-1)
	for range 1 + m.some(m.Alts) {
		var list []known
		p := m.pat(looked, m.Deep, &list)
		s += " (" + p + " " + m.with(list, func() string { return m.expr(is, deep-1) }) + ")"
	}
	if m.some(4) > 0 {
		s += " (_ " + m.expr(is, deep-1) + ")"
	}
	return s + ")"
}

func (m *maker) pat(is rune, deep int, list *[]known) string {
	n := m.name()
	kind := m.some(5)
	one := func(is rune) string { return m.pat(is, deep-1, list) }
	switch {
	case kind == 0 || deep == 0 || is == funs || is == cpxs:
		if slices.ContainsFunc(*list, func(h known) bool { return h.name == n }) || m.some(3) == 0 {
			return "_"
		}
		*list = append(*list, known{n, is})
		return n
	case is == bools:
		return m.small(bools)
	case is == pairs:
		return "(P " + one(ints) + " " + one(lists) + ")"
	case is == lists && kind == 1:
		return "Nil"
	case is == lists:
		return "(Cons " + one(ints) + " " + one(lists) + ")"
	case is == mays && kind == 1:
		return "No"
	case is == mays:
		return "(Just " + one(ints) + ")"
	}
	return m.number(4, 0)
}

// call gives a function that stands there its arguments, all at once, or not.
func (m *maker) call(is rune, deep int) string {
	takes := []rune{m.one("IBLPM"), m.one("IILF")}[:1+m.some(2)]
	f := m.function(takes, is, deep)
	s := "(" + f
	for i, one := range takes {
		if i > 0 && m.some(2) == 0 {
			s = "(" + s + ")"
		}
		s += " " + m.expr(one, deep-1)
	}
	return s + ")"
}

// through has an expression go through functions of any type, with others that aren't looked at.
func (m *maker) through(is rune, deep int) string {
	s := []string{"(id @)", "(k @ #)", "(id k @ #)", "(fst (P @ #))", "(snd (P # @))", "(case (Box @) ((Box x) x))", "(case # (_ @))", "((k id #) @)"}[m.some(8)]
	return strings.NewReplacer("@", m.expr(is, deep-1), "#", m.expr(m.one("IBLPMFGC"), deep-1)).Replace(s)
}

// program has definitions of which some count down, and main.
func (m *maker) program() string {
	s := Head
	for _, n := range []string{"a", "b", "c"} {
		if m.some(3) == 0 {
			is := m.one("IIBCLLPM")
			s += "(def " + n + " () " + m.expr(is, 3) + ") "
			m.holds = append(m.holds, known{n, is})
			continue
		}
		end := m.with([]known{{"x", ints}}, func() string { return m.expr(ints, 2) })
		next := m.with([]known{{"n", ints}, {"x", ints}, {"r", ints}}, func() string { return m.expr(ints, 3) })
		s += "(def " + n + " (n x) (case (< n 1) (True " + end + ") (_ (let ((r (" + n + " (- n 1) " + m.small(ints) + "))) " + next + ")))) "
		m.holds = append(m.holds, known{n, funs2})
	}
	return s + "(def main () " + m.expr(m.one("IIBCLLPM"), 5) + ")"
}
