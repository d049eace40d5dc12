package unify

import (
	"math"
	"slices"
	"testing"

	"reverie/api"
)

// twofold tells that each of n variables, from one on, stands for a type that has the next one twice. The first one has 2^(n + 1) - 1 parts then, the last one standing for nothing.
func twofold(s Subst, from, n int) {
	for i := from; i < from+n; i++ {
		s[i] = Fn(Var(i+1), Var(i+1))
	}
}

// shared is a type that has a type twice, that has a type twice .., n times, each time in one list alone.
func shared(n int, t api.Type) api.Type {
	for range n {
		t = Fn(t, t)
	}
	return t
}

func checkSize(t *testing.T, what string, s Subst, x api.Type, most, want int) {
	t.Helper()
	if got := s.Size(x, most); got != want {
		t.Errorf("%s: of at most %d parts it has %d, not %d", what, most, got, want)
	}
}

func TestSize(t *testing.T) {
	told := subst("t0", "A", "t1", "(L t0)", "t2", "(P t1 t1)", "t3", "t2", "t4", "(T t5 t2 t3 t6)", "t7", "t8", "t8", "t9")
	for text, n := range map[string]int{
		"Int": 1, "t9": 1, "t0": 1, "(List Int)": 2, "(L t9)": 2, "(-> t9 t9)": 3, "t1": 2, "t2": 5, "t3": 5, "t4": 13, "(P t4 t0)": 15, "t7": 1, "(T t7 t8 t9 t7)": 5, "(T A B C D E F G H)": 9, "(L (L (L (L t2))))": 9, "t9223372036854775807": 1,
	} {
		x := typ(text)
		asIt := unchanged(t, text, told, x)
		for most := range 2 * n {
			checkSize(t, text, told, x, most, min(n, most+1))
		}
		checkSize(t, text, told, x, math.MaxInt, n)
		asIt()
		s := Subst{}
		checkSize(t, text+" of nothing told", s, x, 100, parts(x))
	}
}

// TestTwofold has types whose number of parts grows twofold with each variable, as far as numbers go.
func TestTwofold(t *testing.T) {
	for n := range 63 {
		s := Subst{}
		twofold(s, 0, n)
		all := 1<<(n+1) - 1
		checkSize(t, "just enough", s, Var(0), all, all)
		checkSize(t, "one too small", s, Var(0), all-1, all)
		checkSize(t, "nought", s, Var(0), 0, 1)
		checkSize(t, "half", s, Var(0), all/2, all/2+1)
		checkSize(t, "most of all", s, Var(0), math.MaxInt, all)
		checkSize(t, "one behind", s, Var(1), all, max(1, all/2))
		checkSize(t, "shared", nil, shared(n, Var(5)), all, all)
		checkSize(t, "shared, one too small", nil, shared(n, Of("A")), all-1, all)
	}
}

// TestBeyondNumbers has types with more parts than numbers go.
func TestBeyondNumbers(t *testing.T) {
	for _, n := range []int{63, 64, 65, 100, 1000, 100000} {
		s := Subst{}
		twofold(s, 0, n)
		for _, most := range []int{0, 1, 2, 1000, 1 << 32, math.MaxInt - 1} {
			checkSize(t, "twofold", s, Var(0), most, most+1)
			checkSize(t, "shared", nil, shared(n, Var(0)), most, most+1)
			checkSize(t, "both", s, shared(n, Var(0)), most, most+1)
		}
		for _, most := range []int{0, 1000, math.MaxInt} {
			was := len(s)
			if e := s.Within(Var(0), Var(-1+n+5), most); e != api.ErrType || len(s) != was {
				t.Errorf("%d times twofold within %d: %d", n, most, e)
			}
			if e := s.Within(Var(0), Var(0), most); e != api.ErrType {
				t.Errorf("%d times twofold, one already, within %d: %d", n, most, e)
			}
		}
	}
}

// pairsOfGreat are pairs whose types have 2^(n + 1) - 1 parts, or a little more, when they are made one.
func pairsOfGreat(n int) map[string]func(s Subst) (api.Type, api.Type) {
	return map[string]func(s Subst) (api.Type, api.Type){
		"with a variable": func(s Subst) (api.Type, api.Type) {
			twofold(s, 0, n)
			return Var(0), Var(1000)
		},
		"with itself": func(s Subst) (api.Type, api.Type) {
			twofold(s, 0, n)
			return Var(0), Var(0)
		},
		"with another such": func(s Subst) (api.Type, api.Type) {
			twofold(s, 0, n)
			twofold(s, 1000, n)
			return Var(0), Var(1000)
		},
		"with what is shared": func(s Subst) (api.Type, api.Type) {
			twofold(s, 0, n)
			return Var(0), shared(n, Var(1000))
		},
		"both shared": func(s Subst) (api.Type, api.Type) {
			return shared(n, Of("A")), shared(n, Var(1000))
		},
		"by one pair": func(s Subst) (api.Type, api.Type) {
			a, b := Of("A"), Of("A")
			for i := range n {
				a, b = Of("P", Var(i+1), a), Of("P", Fn(Var(i), Var(i)), b)
			}
			return Of("P", Var(n), a), Of("P", Var(1000), b)
		},
	}
}

func TestWithinTwofold(t *testing.T) {
	for _, n := range []int{1, 2, 3, 10, 20, 40, 60} {
		for what, pair := range pairsOfGreat(n) {
			for _, turned := range []bool{false, true} {
				checkGreat(t, n, what, func(s Subst) (api.Type, api.Type) {
					a, b := pair(s)
					if turned {
						a, b = b, a
					}
					return a, b
				})
			}
		}
	}
}

func checkGreat(t *testing.T, n int, what string, pair func(s Subst) (api.Type, api.Type)) {
	t.Helper()
	s := Subst{}
	a, b := pair(s)
	if e := s.Unify(a, b); e != api.OK {
		t.Errorf("%d times twofold, %s: %d", n, what, e)
	}
	all := s.Size(a, math.MaxInt)
	if all < 1<<(n+1)-1 || s.Size(b, math.MaxInt) != all {
		t.Errorf("%d times twofold, %s: %d parts", n, what, all)
	}
	for most, want := range map[int]api.Errno{0: api.ErrType, 1: api.ErrType, all / 2: api.ErrType, all - 1: api.ErrType, all: api.OK, all + 1: api.OK, math.MaxInt: api.OK} {
		s := Subst{}
		a, b := pair(s)
		was := len(s)
		if e := s.Within(a, b, most); e != want || e != api.OK && len(s) != was {
			t.Errorf("%d times twofold, %s, within %d of %d: %d", n, what, most, all, e)
		}
	}
}

// TestGreatOne has types of far too many parts for all to be gone through, that are made one, or aren't.
func TestGreatOne(t *testing.T) {
	const n = 500
	for what, pair := range pairsOfGreat(n) {
		s := Subst{}
		a, b := pair(s)
		if e := s.Within(a, b, math.MaxInt); e != api.ErrType {
			t.Errorf("%s: %d", what, e)
		}
		if e := s.Unify(a, b); e != api.OK {
			t.Errorf("%s: %d", what, e)
		}
		checkSize(t, what, s, s.Apply(a), 1<<40, 1<<40+1)
		if e := s.Unify(s.Apply(a), b); e != api.OK {
			t.Errorf("%s, once more: %d", what, e)
		}
		if e := s.Unify(Of("P", a, Of("A")), Of("P", b, Of("B"))); e != api.ErrType {
			t.Errorf("%s, with others behind them: %d", what, e)
		}
		if e := s.Unify(a, Fn(b, b)); e != api.ErrType {
			t.Errorf("%s, once more twofold: %d", what, e)
		}
	}
}

// TestGreatAskew has two types of which each has its variables where the other one has lists.
func TestGreatAskew(t *testing.T) {
	const n = 300
	for _, last := range []string{"A", "B"} {
		s := Subst{}
		for i := range n {
			s[i] = shared(2, Var(i+1))
			s[i+1000] = Fn(Fn(Var(i+1001), Var(i+1001)), Fn(Var(i+1001), Var(i+1001)))
		}
		s[n] = Fn(Of("A"), Of("A"))
		s[n+1000] = Of(last)
		want := api.OK
		if last == "B" {
			want = api.ErrType
		}
		if e := s.Unify(Var(0), Fn(Var(1000), Var(1000))); e != want {
			t.Errorf("askew, %s: %d", last, e)
		}
		if e := s.Within(Fn(Var(1000), Var(1000)), Var(0), math.MaxInt); e != api.ErrType {
			t.Errorf("askew, %s, within: %d", last, e)
		}
	}
}

// TestGreatTypes has each other function take types of far too many parts: what it does ends, too.
func TestGreatTypes(t *testing.T) {
	const n = 500
	s := Subst{}
	twofold(s, 0, n)
	x := Fn(s.Apply(Var(0)), Of("T", shared(n, Of("P", Var(9001), Var(9000))), Var(9002)))
	if got := Vars(x); !slices.Equal(got, []int{n, 9001, 9000, 9002}) {
		t.Error("variables:", got)
	}
	c := Canon(x)
	if got := Vars(c); !slices.Equal(got, []int{0, 1, 2, 3}) {
		t.Error("variables of the canon:", got)
	}
	if e := (Subst{}).Unify(c, x); e != api.OK {
		t.Error("the canon isn't one with it:", e)
	}
	checkSize(t, "canon", nil, c, 1<<50, 1<<50+1)
	down := x.Args[0]
	for range n {
		down = down.Args[1]
	}
	checkType(t, "the last of all", down, Var(n))
}

// TestOwnMemory has answers whose lists are each of their own memory, as long as there are not too many of them.
func TestOwnMemory(t *testing.T) {
	s := Subst{}
	twofold(s, 0, 12)
	for what, got := range map[string]api.Type{"Apply": s.Apply(Var(0)), "Canon": Canon(shared(12, Var(12)))} {
		lists := map[*api.Type]struct{}{}
		each(got, func(x api.Type) {
			if len(x.Args) > 0 {
				lists[&x.Args[0]] = struct{}{}
			}
		})
		if len(lists) != 1<<12-1 {
			t.Errorf("%s: %d lists are of their own memory", what, len(lists))
		}
	}
}

func each(t api.Type, visit func(api.Type)) {
	visit(t)
	for _, a := range t.Args {
		each(a, visit)
	}
}

// TestWithinLess has numbers of parts that there can't be.
func TestWithinLess(t *testing.T) {
	for _, most := range []int{-1, -2, math.MinInt + 1, math.MinInt} {
		s := subst("t0", "(L t1)")
		if e := s.Within(Var(2), Of("A"), most); e != api.ErrType || len(s) != 1 {
			t.Errorf("within %d: %d", most, e)
		}
		if e := s.Within(Var(0), Var(0), most); e != api.ErrType {
			t.Errorf("within %d: %d", most, e)
		}
		s.Size(Var(0), most)
	}
}

// TestWithin has pairs with most just enough, and one too small, behind others.
func TestWithin(t *testing.T) {
	for _, c := range []struct {
		told []string
		a, b string
		all  int
	}{
		{nil, "A", "A", 1}, {nil, "t0", "A", 1}, {nil, "t0", "t1", 1}, {nil, "t0", "t0", 1}, {nil, "(-> t0 Int)", "(-> (List t1) t1)", 4}, {nil, "t0", "(T A B C D)", 5}, {nil, "(P t0 t0)", "(P (P t1 t1) t2)", 7}, {nil, "(P t0 t1)", "(P (P t1 t1) (P t2 t2))", 11},
		{[]string{"t0", "(P t1 t1)"}, "t0", "t2", 3}, {[]string{"t0", "(P t1 t1)"}, "t0", "(P A t2)", 3}, {[]string{"t0", "(P t1 t1)"}, "(L t0)", "(L (P t2 (L (L A))))", 8}, {[]string{"t0", "(P t1 t1)", "t1", "(P t2 t2)", "t3", "t0"}, "t4", "(P t3 t0)", 15},
	} {
		for most := range 2 * c.all {
			for _, turned := range []bool{false, true} {
				s, a, b := subst(c.told...), typ(c.a), typ(c.b)
				if turned {
					a, b = b, a
				}
				asIt := unchanged(t, c.a, s, a, b)
				e := s.Within(a, b, most)
				if (e == api.OK) != (c.all <= most) || e != api.OK && e != api.ErrType {
					t.Errorf("%v: %s and %s within %d of %d: %d", c.told, c.a, c.b, most, c.all, e)
				}
				if e != api.OK {
					asIt()
				} else if !alike(meant(s, a), meant(s, b)) {
					t.Errorf("%v: %s and %s aren't one: %v", c.told, c.a, c.b, s)
				}
			}
		}
	}
}
