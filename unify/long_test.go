package unify

import (
	"runtime/debug"
	"testing"

	"reverie/api"
)

// long is how deep types are, and narrow how deep calls may be meanwhile: they can't be within each other, one for each list. (A type may be 2^31 - 1 lists deep, but too great to be made here.)
const long, narrow = 1 << 17, 8 * long

// deep is a type in many lists.
func deep(n int, t api.Type) api.Type {
	for range n {
		t = Of("L", t)
	}
	return t
}

// askew is a type whose lists lie first and last in each other, by turns.
func askew(n int, t, beside api.Type) api.Type {
	for i := range n {
		if i%2 == 0 {
			t = Fn(t, beside)
		} else {
			t = Fn(beside, t)
		}
	}
	return t
}

// way goes down a type that deep has made.
func way(t *testing.T, x api.Type, n int, want api.Type) {
	t.Helper()
	for range n {
		if x.Var >= 0 || x.Name != "L" || len(x.Args) != 1 {
			t.Fatal("not the list that was there:", x.Var, x.Name, len(x.Args))
		}
		x = x.Args[0]
	}
	if x.Var != want.Var || x.Name != want.Name || len(x.Args) != len(want.Args) {
		t.Fatal("not what was in the lists:", x.Var, x.Name, len(x.Args))
	}
}

func checkError(t *testing.T, what string, got, want api.Errno) {
	t.Helper()
	if got != want {
		t.Errorf("%s: %d, not %d", what, got, want)
	}
}

func TestDeepTypes(t *testing.T) {
	defer debug.SetMaxStack(debug.SetMaxStack(narrow))
	x := deep(long, Var(7))
	way(t, Subst{}.Apply(x), long, Var(7))
	way(t, Subst{7: Of("A")}.Apply(x), long, Of("A"))
	way(t, Subst{3: x, 7: Var(5), 5: deep(long, Var(6))}.Apply(Var(3)), 2*long, Var(6))
}

func TestDeepFunctions(t *testing.T) {
	defer debug.SetMaxStack(debug.SetMaxStack(narrow))
	x := deep(long, Var(7))
	s := Subst{7: deep(long, Var(8))}
	way(t, s.Apply(x), 2*long, Var(8))
	way(t, Canon(x), long, Var(0))
	checkSize(t, "deep", s, x, 3*long, 2*long+1)
	checkSize(t, "deep, too deep", s, x, 2*long, 2*long+1)
	checkSize(t, "deep, far too deep", s, x, 5, 6)
	if got := Vars(x); len(got) != 1 || got[0] != 7 {
		t.Error("variables:", len(got))
	}
	text := Text(x)
	if len(text) != 4*long+2 || text[:6] != "(L (L " || text[3*long:3*long+3] != "t7)" {
		t.Error("text:", len(text))
	}
	y := askew(long, Of("A"), Var(3))
	if got := Vars(y); len(got) != 1 || got[0] != 3 {
		t.Error("variables, askew:", len(got))
	}
	checkSize(t, "askew", nil, y, 3*long, 2*long+1)
	if got := len(Text(y)); got != len("(-> t3 )")*long+1 {
		t.Error("text, askew:", got)
	}
}

func TestDeepPairs(t *testing.T) {
	defer debug.SetMaxStack(debug.SetMaxStack(narrow))
	x := deep(long, Var(7))
	s := Subst{}
	checkError(t, "with a deeper one", s.Unify(x, deep(long+5, Var(8))), api.OK)
	way(t, s[7], 5, Var(8))
	checkError(t, "with a name in it", s.Within(deep(long+5, Of("A")), x, long+6), api.OK)
	checkType(t, "what was in it", s.Apply(Var(8)), Of("A"))
	checkError(t, "with another name in it", s.Unify(x, deep(long+5, Of("B"))), api.ErrType)
	checkError(t, "with a deeper one yet", s.Unify(x, deep(long+6, Var(9))), api.ErrType)
	checkError(t, "just deep enough", s.Within(Var(0), x, long+6), api.OK)
	checkError(t, "too deep", s.Within(Var(1), x, long+5), api.ErrType)
	checkError(t, "in itself", s.Unify(Var(3), deep(long, Var(3))), api.ErrType)
	checkError(t, "in itself, deep in it", s.Unify(deep(long, Var(3)), deep(long+1, Var(3))), api.ErrType)
}

func TestAskewPairs(t *testing.T) {
	defer debug.SetMaxStack(debug.SetMaxStack(narrow))
	s := Subst{}
	checkError(t, "askew", s.Unify(askew(long, Var(1), Var(2)), askew(long, Of("A"), Fn(Var(1), Var(3)))), api.OK)
	checkType(t, "beside", s.Apply(Var(2)), Fn(Of("A"), Var(3)))
	checkError(t, "askew, in itself", s.Unify(askew(long, Var(4), Var(3)), askew(long, Var(3), Of("L", Var(4)))), api.ErrType)
}

// TestLongWays has variables that stand for variables, again and again, and for lists of them.
func TestLongWays(t *testing.T) {
	defer debug.SetMaxStack(debug.SetMaxStack(narrow))
	s := Subst{}
	every := make([]api.Type, long)
	for i := range long {
		s[i] = Var(i + 1)
		every[i] = Var(i)
	}
	all := Of("All", every...)
	checkType(t, "one", s.Apply(Var(0)), Var(long))
	for i, x := range s.Apply(all).Args {
		if x.Var != long {
			t.Fatal("not the end of the way:", i, x.Var)
		}
	}
	checkSize(t, "all", s, all, 2*long, long+1)
	checkError(t, "a way's ends", s.Unify(Var(0), Var(long)), api.OK)
	checkError(t, "one in itself", s.Unify(Var(0), Of("L", Var(long))), api.ErrType)
	checkError(t, "all of one", s.Unify(Of("L", all), Of("L", Var(long+1))), api.OK)
	checkError(t, "a name", s.Unify(Of("A"), Var(0)), api.OK)
	checkType(t, "one by a name", s.Apply(Var(5)), Of("A"))
	checkError(t, "another name", s.Unify(Var(0), Of("B")), api.ErrType)
	if got := Vars(all); len(got) != long || got[long-1] != long-1 {
		t.Error("variables:", len(got))
	}
}

func TestLongWaysOfLists(t *testing.T) {
	defer debug.SetMaxStack(debug.SetMaxStack(narrow))
	s := Subst{}
	for i := range long {
		s[i] = Of("L", Var(i+1))
	}
	way(t, s.Apply(Var(0)), long, Var(long))
	checkSize(t, "lists", s, Var(0), long+1, long+1)
	checkSize(t, "lists, one too many", s, Var(0), long, long+1)
	checkError(t, "a far one in itself", s.Unify(Var(long), Var(0)), api.ErrType)
	checkError(t, "a deep type", s.Unify(Var(0), deep(long, Of("A"))), api.OK)
	checkType(t, "the last one", s.Apply(Var(long)), Of("A"))
	checkError(t, "not as deep", s.Unify(Var(1), deep(long, Of("A"))), api.ErrType)
}

// TestManyVariables makes many variables one, in one pair and one behind the other.
func TestManyVariables(t *testing.T) {
	const n = long / 4
	a, b := make([]api.Type, n), make([]api.Type, n)
	for i := range n {
		a[i], b[i] = Var(i), Var(i+1)
	}
	for range 2 {
		s := Subst{}
		checkError(t, "many at once", s.Unify(Of("T", a...), Of("T", b...)), api.OK)
		checkError(t, "a name", s.Unify(Var(n/2), Of("A")), api.OK)
		for i := range n + 1 {
			if x := s.Apply(Var(i)); x.Name != "A" {
				t.Fatal("not the name:", i, x)
			}
			if i > 1000 {
				break
			}
		}
		checkError(t, "another name", s.Unify(Var(0), Of("B")), api.ErrType)
		checkError(t, "one in itself", s.Unify(Of("T", a...), Of("L", Var(n))), api.ErrType)
		a, b = b, a
	}
	s := Subst{}
	for i := range n {
		checkError(t, "one behind the other", s.Unify(Var(i), Var(i+1)), api.OK)
	}
	checkError(t, "the name", s.Unify(Var(0), Of("A")), api.OK)
	checkType(t, "the last one", s.Apply(Var(n)), Of("A"))
}
