package unify

import (
	"math"
	"reflect"
	"slices"
	"strconv"
	"testing"

	"reverie/api"
)

func TestVar(t *testing.T) {
	for _, n := range []int{0, 1, 2, 9, 10, 1 << 20, 1 << 40, math.MaxInt - 1, math.MaxInt} {
		if got := Var(n); !reflect.DeepEqual(got, api.Type{Var: n}) {
			t.Errorf("the variable %d: %v", n, got)
		}
	}
}

func TestOf(t *testing.T) {
	for _, c := range []struct {
		got  api.Type
		want string
	}{
		{Of("Int"), "Int"}, {Of("Int", []api.Type{}...), "Int"}, {Of("a"), "a"}, {Of("->"), "->"},
		{Of("List", Of("Int")), "(List Int)"}, {Of("List", Var(0)), "(List t0)"}, {Of("t", Var(math.MaxInt)), "(t t9223372036854775807)"},
		{Of("->", Var(1), Var(0)), "(-> t1 t0)"}, {Of("T", Var(0), Of("A"), Var(0), Of("L", Var(1)), Of("A", Of("B"))), "(T t0 A t0 (L t1) (A B))"},
		{Of("T", Of("A"), Of("B"), Of("C"), Of("D"), Of("E"), Of("F"), Of("G"), Of("H"), Of("I")), "(T A B C D E F G H I)"},
		{Fn(Of("Int"), Of("Bool")), "(-> Int Bool)"}, {Fn(Var(0), Var(0)), "(-> t0 t0)"}, {Fn(Fn(Var(2), Var(1)), Fn(Var(1), Var(2))), "(-> (-> t2 t1) (-> t1 t2))"},
	} {
		checkType(t, c.want, c.got, typ(c.want))
	}
}

// TestOfList hands in a list, which isn't kept, and behind whose length nothing is written.
func TestOfList(t *testing.T) {
	list := spare(Var(0), Of("Int"))
	was := slices.Clone(list[:cap(list)])
	got := Of("T", list...)
	if !slices.EqualFunc(list[:cap(list)], was, exactly) {
		t.Error("the list was changed:", list[:cap(list)])
	}
	list[0], list[1] = Var(5), Var(6)
	checkType(t, "of a list", got, typ("(T t0 Int)"))
	got.Args[0] = Var(8)
	got.Args = append(got.Args, Var(9))
	if !alike(list[0], Var(5)) || !alike(list[:cap(list)][2], was[2]) {
		t.Error("the answer is the list:", list[:cap(list)])
	}
}

func TestApply(t *testing.T) {
	for _, c := range []struct {
		s       Subst
		t, want string
	}{
		{subst(), "t0", "t0"}, {nil, "t0", "t0"}, {nil, "(T t0 Int t0)", "(T t0 Int t0)"}, {subst(), "Int", "Int"}, {subst("t0", "Int"), "Int", "Int"},
		{subst("t0", "Int"), "t0", "Int"}, {subst("t0", "Int"), "t1", "t1"}, {subst("t0", "t1"), "t0", "t1"}, {subst("t0", "Int"), "(-> t0 (-> t1 t0))", "(-> Int (-> t1 Int))"},
		{subst("t0", "(List t1)"), "t0", "(List t1)"}, {subst("t0", "(List t1)", "t1", "Int"), "t0", "(List Int)"}, {subst("t1", "(List t0)", "t0", "Int"), "(-> t0 t1)", "(-> Int (List Int))"},
		{subst("t0", "t1", "t1", "t2", "t2", "t3"), "t0", "t3"}, {subst("t0", "t1", "t1", "t2", "t2", "t3", "t3", "Int"), "(T t3 t0 t2 t1 t4)", "(T Int Int Int Int t4)"},
		{subst("t3", "t1", "t1", "(L t2)", "t2", "(-> t0 t0)", "t0", "t4"), "(T t3 t2)", "(T (L (-> t4 t4)) (-> t4 t4))"},
		{subst("t0", "(P t1 t2)", "t1", "(P t2 t2)", "t2", "A"), "(P t0 t0)", "(P (P (P A A) A) (P (P A A) A))"},
		{subst("t9223372036854775807", "(L t9223372036854775806)"), "(-> t9223372036854775807 t0)", "(-> (L t9223372036854775806) t0)"},
		{subst("t0", "(T t1 t2 t3 t4 t5 t6 t7 t8)", "t8", "(L t1)", "t4", "A"), "(L t0)", "(L (T t1 t2 t3 A t5 t6 t7 (L t1)))"},
	} {
		x := typ(c.t)
		asIt := unchanged(t, c.t, c.s, x)
		for range 2 {
			checkType(t, c.t, c.s.Apply(x), typ(c.want))
		}
		asIt()
	}
}

// TestApplyAnswers turns what was answered, and what was handed in.
func TestApplyAnswers(t *testing.T) {
	s, x := subst("t0", "(L (M t1))"), typ("(-> t0 (-> t0 (N t2)))")
	asIt := unchanged(t, "Apply", s, x)
	got := s.Apply(x)
	turn(got.Args[0])
	checkType(t, "a part turned", got, typ("(-> (L t77) (-> (L (M t1)) (N t2)))"))
	turn(got)
	asIt()
	got = s.Apply(x)
	turn(x)
	turn(s[0])
	checkType(t, "what was handed in turned", got, typ("(-> (L (M t1)) (-> (L (M t1)) (N t2)))"))
}

func TestVars(t *testing.T) {
	for text, want := range map[string][]int{
		"Int": nil, "(List Int)": nil, "(T A (B C) A)": nil, "t0": {0}, "t7": {7}, "t9223372036854775807": {math.MaxInt}, "(List t3)": {3}, "(-> t1 t0)": {1, 0}, "(-> t0 t1)": {0, 1}, "(-> t0 t0)": {0},
		"(T t2 t1 t2 t0 t1)": {2, 1, 0}, "(-> (-> t5 t4) (-> t3 t2))": {5, 4, 3, 2}, "(-> t9 (-> (List t1) (T t9 t0 t1)))": {9, 1, 0}, "(T (T (T t3 t1) t2) (T t1 (T t0 t4)) t5)": {3, 1, 2, 0, 4, 5},
		"(T t8 (L t8) t7 (L t7) t8 t9223372036854775807 t6)": {8, 7, math.MaxInt, 6},
	} {
		x := typ(text)
		asIt := unchanged(t, text, nil, x)
		for range 2 {
			got := Vars(x)
			if !slices.Equal(got, want) {
				t.Errorf("%s: %v, not %v", text, got, want)
			}
			for i := range got {
				got[i] = 66
			}
		}
		asIt()
	}
}

func TestCanon(t *testing.T) {
	for text, want := range map[string]string{
		"Int": "Int", "(T A (L B))": "(T A (L B))", "t0": "t0", "t5": "t0", "t9223372036854775807": "t0", "(-> t1 t0)": "(-> t0 t1)", "(-> t0 t1)": "(-> t0 t1)", "(-> t3 t3)": "(-> t0 t0)", "(-> t1 (-> t2 t0))": "(-> t0 (-> t1 t2))",
		"(T t2 t1 t2 t0 t1)": "(T t0 t1 t0 t2 t1)", "(-> (List t4) (-> (-> t9 t4) (T t0 t9 A)))": "(-> (List t0) (-> (-> t1 t0) (T t2 t1 A)))", "(T (L (L t1)) t1 (L t0) (L t1))": "(T (L (L t0)) t0 (L t1) (L t0))", "(T (P t1 t0) (P t0 t1))": "(T (P t0 t1) (P t1 t0))",
	} {
		x := typ(text)
		asIt := unchanged(t, text, nil, x)
		for range 2 {
			got := Canon(x)
			checkType(t, text, got, typ(want))
			turn(got)
		}
		asIt()
	}
}

func TestText(t *testing.T) {
	for _, text := range []string{
		"t0", "t9", "t10", "t1234567890", "t9223372036854775807", "Int", "A'", "->", "x", "(List Int)", "(List t0)", "(-> t0 t0)", "(-> (-> t0 t0) (-> t0 t0))", "(T A B C D E F G H)", "(T A B)", "(T (L t1) (L (L (L t2))) t0)", "(L (L (L (L (P (P A t12) (P t3 B))))))", "(-> (List t0) (-> (-> t1 t0) Int))",
	} {
		x := typ(text)
		asIt := unchanged(t, text, nil, x)
		if got := Text(x); got != text {
			t.Errorf("%s: %q", text, got)
		}
		asIt()
	}
}

// TestVariableAlone has variables that hold more than their numbers: nothing else counts.
func TestVariableAlone(t *testing.T) {
	odd := func(n int) api.Type { return api.Type{Var: n, Name: "L", Args: spare(Var(6), Of("A"))} }
	x := Of("P", odd(3), odd(0))
	s := Subst{0: odd(1), 1: Of("L", odd(2)), 4: odd(5)}
	if got := Text(x); got != "(P t3 t0)" {
		t.Error(got)
	}
	if got := Vars(x); !slices.Equal(got, []int{3, 0}) {
		t.Error(got)
	}
	checkType(t, "Canon", Canon(x), typ("(P t0 t1)"))
	checkType(t, "Apply", s.Apply(x), typ("(P t3 (L t2))"))
	checkType(t, "Apply", s.Apply(Of("P", Var(4), odd(4))), typ("(P t5 t5)"))
	if n := s.Size(x, 9); n != 4 {
		t.Error("parts:", n)
	}
	if e := s.Unify(odd(2), Var(2)); e != api.OK || len(s) != 3 {
		t.Error(e, s)
	}
	if e := s.Unify(odd(0), Of("L", odd(3))); e != api.OK {
		t.Error(e)
	}
	checkType(t, "one", s.Apply(Of("P", odd(2), Var(0))), s.Apply(Of("P", Var(3), Of("L", odd(2)))))
	if e := s.Unify(odd(2), Of("A", odd(3))); e != api.ErrType {
		t.Error(e)
	}
}

// TestEmptyLists has types of nothing, whose lists aren't nil.
func TestEmptyLists(t *testing.T) {
	x := api.Type{Var: -1, Name: "A", Args: []api.Type{}}
	for i, got := range []api.Type{Of("L", x), Subst{}.Apply(Of("L", x)), Subst{0: x}.Apply(typ("(L t0)")), Canon(Of("L", x))} {
		checkType(t, strconv.Itoa(i), got, typ("(L A)"))
	}
	if got := Text(Of("L", x)); got != "(L A)" || Vars(Of("L", x)) != nil {
		t.Error(got)
	}
	for _, w := range ways() {
		s := Subst{0: x}
		if e := w.ask(s, Of("P", Var(0), Var(1)), Of("P", Of("A"), x)); e != api.OK || s.Size(Of("L", Var(1)), 5) != 2 {
			t.Error(w.what, e, s)
		}
		if e := w.ask(s, x, Of("A", x)); e != api.ErrType {
			t.Error(w.what, e)
		}
	}
}

// TestNamesAlone has types whose Var is any number below 0, and that have an empty name.
func TestNamesAlone(t *testing.T) {
	x, y := api.Type{Var: math.MinInt, Name: "L", Args: []api.Type{{Var: -2}}}, Of("L", Of(""))
	checkType(t, "Apply", Subst{}.Apply(x), y)
	checkType(t, "Canon", Canon(x), y)
	if got := Text(x); got != "(L )" {
		t.Errorf("%q", got)
	}
	s := Subst{}
	if e := s.Unify(x, y); e != api.OK || len(s) != 0 {
		t.Error(e, s)
	}
	if e := s.Unify(y, Of("L", Of("A"))); e != api.ErrType {
		t.Error(e)
	}
	if n := s.Size(x, 9); n != 2 {
		t.Error(n)
	}
}
