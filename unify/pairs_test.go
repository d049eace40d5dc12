package unify

import (
	"maps"
	"math"
	"slices"
	"testing"

	"reverie/api"
)

// asked is a way to make two types one.
type asked struct {
	what string
	ask  func(s Subst, a, b api.Type) api.Errno
}

// ways are all ways to make two types one that ask for no number of parts that matters.
func ways() []asked {
	return []asked{
		{"Unify", Subst.Unify},
		{"Within 1000", func(s Subst, a, b api.Type) api.Errno { return s.Within(a, b, 1000) }},
		{"Within all", func(s Subst, a, b api.Type) api.Errno { return s.Within(a, b, math.MaxInt) }},
	}
}

// checkOne asks for two types to be made one in each way; want is what becomes of a list of types, up to the names of variables.
func checkOne(t *testing.T, told []string, a, b string, types, want string) {
	t.Helper()
	for _, w := range ways() {
		for _, turned := range []bool{false, true} {
			s, x, y := subst(told...), typ(a), typ(b)
			if turned {
				x, y = y, x
			}
			was := maps.Clone(s)
			asIt := unchanged(t, a, was, x, y)
			if e := w.ask(s, x, y); e != api.OK {
				t.Errorf("%s %v: %s and %s: %d", w.what, told, a, b, e)
				continue
			}
			asIt()
			checkTold(t, s, was)
			if !alike(meant(s, x), meant(s, y)) || !alike(s.Apply(x), s.Apply(y)) {
				t.Errorf("%s %v: %s and %s aren't one: %v", w.what, told, a, b, s)
			}
			checkType(t, w.what+" "+a+" and "+b, Canon(s.Apply(typ(types))), typ(want))
		}
	}
}

// checkTold asks whether all that was told is told still, and that no variable stands for what it is in.
func checkTold(t *testing.T, s, was Subst) {
	t.Helper()
	for n := range was {
		if got, want := meant(s, Var(n)), meant(s, meant(was, Var(n))); !alike(got, want) {
			t.Errorf("%d stood for %v, and stands for %v in %v", n, want, got, s)
		}
	}
}

// checkNotOne asks for two types that can't be made one.
func checkNotOne(t *testing.T, told []string, a, b string) {
	t.Helper()
	for _, w := range append(ways(), asked{"Within 0", func(s Subst, a, b api.Type) api.Errno { return s.Within(a, b, 0) }}) {
		for _, turned := range []bool{false, true} {
			s, x, y := subst(told...), typ(a), typ(b)
			if turned {
				x, y = y, x
			}
			asIt := unchanged(t, a, s, x, y)
			if e := w.ask(s, x, y); e != api.ErrType {
				t.Errorf("%s %v: %s and %s: %d, not ErrType", w.what, told, a, b, e)
			}
			asIt()
		}
	}
}

func TestOne(t *testing.T) {
	for _, c := range [][4]string{
		{"Int", "Int", "t0", "t0"}, {"t0", "t0", "(T t0 t1)", "(T t0 t1)"}, {"t0", "t1", "(T t0 t1 t2)", "(T t0 t0 t1)"}, {"t0", "Int", "(T t0 t1)", "(T Int t0)"}, {"(List t0)", "(List t0)", "(T t0 t1)", "(T t0 t1)"},
		{"(-> t0 Int)", "(-> (List t1) t1)", "(T t0 t1)", "(T (List Int) Int)"}, {"(List t0)", "(List (List t1))", "(T t0 t1)", "(T (List t0) t0)"}, {"t9223372036854775807", "(List t0)", "(T t9223372036854775807 t0)", "(T (List t0) t0)"},
		{"(P t0 t0)", "(P t1 t2)", "(T t0 t1 t2 t3)", "(T t0 t0 t0 t1)"}, {"(P t0 t0)", "(P t1 (L t2))", "(T t0 t1 t2)", "(T (L t0) (L t0) t0)"}, {"(P t0 t1)", "(P t1 t0)", "(T t0 t1)", "(T t0 t0)"},
		{"(T t0 t1 t2)", "(T t1 t2 t0)", "(T t0 t1 t2 t3)", "(T t0 t0 t0 t1)"}, {"(T t0 t1 t2)", "(T t1 t2 A)", "(T t0 t1 t2)", "(T A A A)"}, {"(T t0 t0 t1)", "(T t1 t2 (L t3))", "(T t0 t1 t2 t3)", "(T (L t0) (L t0) (L t0) t0)"},
		{"(P (P t0 t1) t2)", "(P t3 (P t1 t0))", "(T t2 t3 t0 t1)", "(T (P t0 t1) (P t1 t0) t1 t0)"}, {"(-> (-> t0 t1) (-> t0 t1))", "(-> t2 (-> Int t3))", "(T t0 t1 t2 t3)", "(T Int t0 (-> Int t0) t0)"},
		{"(T t0 t1 t2 t3)", "(T (P t1 t1) (P t2 t2) (P t3 t3) A)", "(T t3 t2 t1)", "(T A (P A A) (P (P A A) (P A A)))"}, {"(T t1 t2 t3 t4)", "(T (L t2) (L t3) (L t4) t0)", "(T t1 t4 t0)", "(T (L (L (L t0))) t0 t0)"},
		{"(T (L t0) t0)", "(T t1 t2)", "(T t0 t1 t2)", "(T t0 (L t0) t0)"}, {"(T t0 (L t1) t2)", "(T (L t3) t0 A)", "(T t0 t1 t2 t3)", "(T (L t0) t0 A t0)"}, {"(T A B C D E F G t0)", "(T t1 t2 t3 t4 t5 t6 t7 H)", "(T t7 t0 t1 t4 t6)", "(T G H A D F)"},
	} {
		checkOne(t, nil, c[0], c[1], c[2], c[3])
	}
}

func TestOneByWhatWasTold(t *testing.T) {
	for _, c := range []struct {
		told              []string
		a, b, types, want string
	}{
		{[]string{"t0", "Int"}, "t0", "Int", "(T t0 t1)", "(T Int t0)"}, {[]string{"t0", "Int"}, "t0", "t1", "(T t0 t1)", "(T Int Int)"}, {[]string{"t0", "t1"}, "t0", "t1", "(T t0 t1 t2)", "(T t0 t0 t1)"}, {[]string{"t0", "t1"}, "t0", "A", "(T t0 t1)", "(T A A)"},
		{[]string{"t0", "t1", "t1", "t2", "t3", "t4"}, "t3", "t0", "(T t0 t1 t2 t3 t4 t5)", "(T t0 t0 t0 t0 t0 t1)"}, {[]string{"t0", "t1", "t1", "t2"}, "t0", "(L t3)", "(T t0 t1 t2)", "(T (L t0) (L t0) (L t0))"}, {[]string{"t0", "t1", "t1", "t2", "t2", "A"}, "t0", "t3", "(T t3 t0)", "(T A A)"},
		{[]string{"t0", "(L t1)"}, "t0", "(L t2)", "(T t0 t1 t2)", "(T (L t0) t0 t0)"}, {[]string{"t0", "(L t1)"}, "t0", "(L A)", "(T t0 t1)", "(T (L A) A)"}, {[]string{"t0", "(L t1)", "t2", "(L t3)"}, "t0", "t2", "(T t0 t1 t2 t3)", "(T (L t0) t0 (L t0) t0)"},
		{[]string{"t0", "(L t1)", "t2", "(L (L t3))"}, "t0", "t2", "(T t0 t1 t3)", "(T (L (L t0)) (L t0) t0)"}, {[]string{"t0", "(P t1 t2)", "t3", "(P A t4)"}, "(P t0 t2)", "(P t3 t1)", "(T t0 t4)", "(T (P A A) A)"},
		{[]string{"t0", "(P t1 t1)", "t1", "(P t2 t2)", "t5", "(P t6 t6)", "t6", "(P t7 t7)"}, "t0", "t5", "(T t2 t7 t1 t6)", "(T t0 t0 (P t0 t0) (P t0 t0))"}, {[]string{"t0", "(P t1 (L t2))"}, "(P t2 t0)", "(P t3 (P (L t3) t1))", "(T t1 t2 t3)", "(T (L t0) t0 t0)"},
	} {
		checkOne(t, c.told, c.a, c.b, c.types, c.want)
	}
}

func TestNotOne(t *testing.T) {
	for _, c := range [][2]string{
		{"Int", "Bool"}, {"Int", "int"}, {"Int", "Int'"}, {"Int", "(List Int)"}, {"(List Int)", "List"}, {"(List Int)", "(List Bool)"}, {"(List Int)", "(Tree Int)"}, {"(P A)", "(P A A)"}, {"(T t0 t1)", "(T t0 t1 t2)"}, {"(T A B C)", "(T A B)"}, {"(-> A B)", "(P A B)"}, {"(-> A B)", "(-> B A)"},
		{"(T A B t0)", "(T A A t1)"}, {"(T t0 t0)", "(T A B)"}, {"(T t0 A t0)", "(T B t1 t1)"}, {"(T t0 t1 t0 t1)", "(T t1 A t2 B)"}, {"(P (L t0) t0)", "(P (L A) B)"}, {"(P t0 (L t0))", "(P (L t1) t1)"}, {"(L (L (L A)))", "(L (L (L B)))"}, {"(L (L (L A)))", "(L (L A))"},
	} {
		checkNotOne(t, nil, c[0], c[1])
	}
	told := []string{"t0", "t1", "t1", "A", "t2", "(L t3)", "t4", "(P t5 t6)", "t7", "(L (L t3))"}
	for _, c := range [][2]string{
		{"t0", "B"}, {"t0", "t2"}, {"t2", "t4"}, {"t2", "L"}, {"t2", "(L t3 t3)"}, {"(P t3 t2)", "(P A (L B))"}, {"(P t4 t4)", "(P (P A t0) (P B t8))"}, {"(P t5 t6)", "(P t0 t4)"}, {"t7", "(L A)"}, {"t7", "(L (L t7))"},
	} {
		checkNotOne(t, told, c[0], c[1])
	}
}

// TestInItself has variables that would stand for types in which they are.
func TestInItself(t *testing.T) {
	for _, c := range [][2]string{
		{"t0", "(L t0)"}, {"t3", "(-> t3 Int)"}, {"t3", "(-> Int t3)"}, {"t0", "(L (L (P A t0)))"}, {"t9223372036854775807", "(L t9223372036854775807)"}, {"(L t0)", "t0"}, {"(P t0 t1)", "(P t1 (L t0))"}, {"(P t0 t1)", "(P (L t1) (L t0))"},
		{"(P t0 t0)", "(P t1 (L t1))"}, {"(T t0 t1 t2)", "(T (L t1) (L t2) (L t0))"}, {"(T t0 t0 t1)", "(T t1 t2 (L t2))"}, {"(P (L t0) t1)", "(P t1 t0)"}, {"(P t0 (-> t0 A))", "(P (-> t1 A) t1)"}, {"(T t0 t1 A)", "(T (P t1 t2) (L t0) t2)"},
		{"(-> (-> t0 t1) t0)", "(-> t0 t2)"},
	} {
		checkNotOne(t, nil, c[0], c[1])
	}
	for _, c := range []struct {
		told []string
		a, b string
	}{
		{[]string{"t0", "t1"}, "t1", "(L t0)"}, {[]string{"t0", "t1"}, "t0", "(L t1)"}, {[]string{"t0", "t1", "t1", "t2"}, "(L t0)", "t2"}, {[]string{"t0", "(L t1)"}, "t1", "t0"}, {[]string{"t0", "(L t1)"}, "t1", "(L t0)"}, {[]string{"t0", "(L t1)"}, "t0", "t1"},
		{[]string{"t0", "(L t1)", "t1", "(L t2)", "t2", "(L t3)"}, "t3", "t0"}, {[]string{"t0", "(L t1)", "t2", "(L t3)"}, "(P t1 t3)", "(P t2 t0)"}, {[]string{"t0", "(L t1)", "t2", "(L (L t1))"}, "t0", "t2"}, {[]string{"t0", "(P t1 t2)", "t3", "(P t2 (L t1))"}, "t0", "t3"}, {[]string{"t0", "(P A (L t1))", "t5", "A"}, "(P t1 t5)", "(P t0 t5)"},
	} {
		checkNotOne(t, c.told, c.a, c.b)
	}
}

// TestOneBehindAnother tells one substitution more and more.
func TestOneBehindAnother(t *testing.T) {
	for _, w := range ways() {
		s := Subst{}
		for i, c := range []struct {
			a, b string
			e    api.Errno
			want string
		}{
			{"t0", "t1", api.OK, "(T t0 t0 t1 t2 t3 t4)"}, {"(P t2 t3)", "(P t3 t2)", api.OK, "(T t0 t0 t1 t1 t2 t3)"}, {"(P t0 A)", "(P A B)", api.ErrType, "(T t0 t0 t1 t1 t2 t3)"}, {"t4", "(-> t0 t2)", api.OK, "(T t0 t0 t1 t1 (-> t0 t1) t2)"},
			{"t3", "(L t4)", api.ErrType, "(T t0 t0 t1 t1 (-> t0 t1) t2)"}, {"(P t3 t5)", "(P t5 A)", api.OK, "(T t0 t0 A A (-> t0 A) A)"}, {"(P t1 t2)", "(P (L t5) B)", api.ErrType, "(T t0 t0 A A (-> t0 A) A)"}, {"t4", "(-> t5 t1)", api.OK, "(T A A A A (-> A A) A)"},
			{"(T t0 t1 t2 t3 t4 t5)", "(T t5 t2 t1 t0 (-> A t1) A)", api.OK, "(T A A A A (-> A A) A)"}, {"t0", "t4", api.ErrType, "(T A A A A (-> A A) A)"},
		} {
			was := keptAll(s)
			a, b := typ(c.a), typ(c.b)
			if e := w.ask(s, a, b); e != c.e {
				t.Errorf("%s %d: %s and %s: %d", w.what, i, c.a, c.b, e)
			}
			checkTold(t, s, was)
			checkType(t, c.a+" and "+c.b, Canon(s.Apply(typ("(T t0 t1 t2 t3 t4 t5)"))), typ(c.want))
			turn(a)
			turn(b)
			checkType(t, "what was handed in turned", Canon(s.Apply(typ("(T t0 t1 t2 t3 t4 t5)"))), typ(c.want))
		}
	}
}

// TestNothingMore has types that are one already: nothing more is told, to a substitution that is nil either.
func TestNothingMore(t *testing.T) {
	told := []string{"t0", "t1", "t2", "(P t1 (L t3))"}
	for _, c := range [][2]string{{"t0", "t0"}, {"t9", "t9"}, {"t0", "t1"}, {"t2", "(P t0 (L t3))"}, {"(T t2 A)", "(T (P t1 (L t3)) A)"}, {"A", "A"}} {
		for _, w := range ways() {
			s, a, b := subst(told...), typ(c[0]), typ(c[1])
			asIt := unchanged(t, w.what, s, a, b)
			if e := w.ask(s, a, b); e != api.OK {
				t.Errorf("%s: %s and %s: %d", w.what, c[0], c[1], e)
			}
			asIt()
			if e := w.ask(nil, a, a); e != api.OK {
				t.Errorf("%s of none: %s: %d", w.what, c[0], e)
			}
		}
	}
}

// TestNone has a substitution that is nil: it tells nothing, and can't be told anything.
func TestNone(t *testing.T) {
	var s Subst
	for _, w := range ways() {
		for _, c := range [][2]string{{"t0", "A"}, {"t0", "t1"}, {"A", "B"}, {"(L (L t0))", "(L t1)"}} {
			if e := w.ask(s, typ(c[0]), typ(c[1])); e != api.ErrType {
				t.Errorf("%s: %s and %s: %d", w.what, c[0], c[1], e)
			}
		}
	}
	if n := s.Size(typ("(P t0 A)"), 3); n != 3 {
		t.Error("parts:", n)
	}
}

// TestNoSubstitution has variables that stand for what they are in, of which nothing is promised but that calls end.
func TestNoSubstitution(t *testing.T) {
	for _, told := range [][]string{{"t0", "t0"}, {"t0", "t1", "t1", "t0"}, {"t0", "(L t0)"}, {"t0", "(P t1 t1)", "t1", "(P t0 t2)"}, {"t2", "t0", "t0", "t1", "t1", "t0"}} {
		for _, w := range ways() {
			s := subst(told...)
			s.Apply(typ("(T t0 t1 t2)"))
			s.Size(typ("(T t0 t1 t2)"), 100)
			s.Size(typ("(T t0 t1 t2)"), math.MaxInt)
			w.ask(s, typ("(T t0 t1 t2)"), typ("(T t1 t2 t3)"))
			w.ask(s, typ("(T t0 t3)"), typ("(T t1 (L t2))"))
		}
	}
}

// TestSameChoice asks one thing many times: it's the same that is told, each time.
func TestSameChoice(t *testing.T) {
	a, b := typ("(T t0 t1 t2 (P t5 t6) t8 t9)"), typ("(T t3 t4 t0 (P t6 t1) t9 t8)")
	var was []Subst
	for range 50 {
		for _, w := range ways() {
			s := subst("t8", "(L t10)")
			if e := w.ask(s, a, b); e != api.OK {
				t.Fatal(e)
			}
			was = append(was, s)
		}
	}
	if slices.ContainsFunc(was, func(s Subst) bool { return !maps.EqualFunc(s, was[0], exactly) }) {
		t.Error("not the same, each time")
	}
}
