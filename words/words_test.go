package words_test

import (
	"slices"
	"strconv"
	"testing"

	"reverie/api"
	"reverie/flat"
	"reverie/fresh"
	"reverie/made"
	"reverie/words"
)

const head = "(data P (a b) (P a b)) (def g (x) x) (def main () 1) "

func named(t *testing.T, s string) api.Program {
	t.Helper()
	p, wrong := made.Named(head + s)
	if wrong != "" {
		t.Fatal(wrong)
	}
	return p
}

func TestBound(t *testing.T) {
	got := words.Bound(named(t, "(def f (a b) (let ((c a) (d b)) (case c ((P e (P a _)) (fn (i) i)) (b b)))) (def k (x) x)"))
	if want := []string{"x", "a", "b", "c", "d", "e", "a", "i", "b", "x"}; !slices.Equal(got, want) {
		t.Error(got, want)
	}
}

func TestTwice(t *testing.T) {
	for s, twice := range map[string]bool{
		"(def f (a b) (fn (c) c))": false, "(def f (a a') (let ((b a)) (case b (c c))))": false, "(def f (x) 1)": true, "(def f () (fn (x) x))": true, "(def f (a) (fn (a) a))": true, "(def f () ((fn (a) a) (fn (a) a)))": true, "(def f (a) (case a ((P b (P c _)) c) (d d)))": false,
		"(def f (a) (case a ((P b (P c _)) c) (b b)))": true, "(def f () (let ((a 1) (b 2)) (let ((c 3)) 1)))": false, "(def f () (let ((a 1) (b 2)) (let ((b 3)) 1)))": true, "(def f (f) 1)": true, "(def f (g) 1)": true, "(def f () (fn (main) 1))": true, "(def f () f)": false,
	} {
		if wrong := words.Twice(named(t, s)); (wrong != "") != twice {
			t.Errorf("%s: %q", s, wrong)
		}
	}
}

func TestNotFlat(t *testing.T) {
	for body, isFlat := range map[string]bool{
		"1": true, "(case x (1 2) (_ 3))": true, "(case x ((P a b) a) (_ 3))": true, "(case x (True 2) (_ 3))": true, "(case x (1 2))": false, "(case x (1 2) (a 3))": false, "(case x (a 2) (_ 3))": false, "(case x (_ 2) (_ 3))": false, "(case 1 (1 2) (_ 3))": false, "(case (g x) (1 2) (_ 3))": false, "(case x ((P a _) a) (_ 3))": false,
		"(case x ((P 1 a) a) (_ 3))": false, "(case x ((P a (P b c)) a) (_ 3))": false, "(case x (1 2) (2 3) (_ 3))": false, "(fn (a) (case a (1 2) (_ (case x (1 2)))))": false, "(let ((a (case x (1 2)))) a)": false, "(case x (1 (case x (2 3) (_ 4))) (_ (case x (5 6) (_ 7))))": true,
	} {
		if wrong := words.NotFlat(named(t, "(def f (x) "+body+")")); (wrong == "") != isFlat {
			t.Errorf("%s: %q", body, wrong)
		}
	}
}

func TestFuel(t *testing.T) {
	for s, want := range map[string]string{"(+ 1 2)": "3", "(/ 1 0)": "error 6", "(P 1 (P 2 3))": "(P 1 (P 2 3))", "1": "1"} {
		p := named(t, "(def k () "+s+")")
		p.Defs[1].Body = api.Expr{Kind: api.VarE, Name: "k"}
		need := words.LeastFuel(p, 1000)
		if got, less, more := words.Outcome(p, need), words.Outcome(p, need-1), words.Outcome(p, 1000); got != want || less != "error 11" || more != want {
			t.Errorf("%s: %s with %d of fuel, %s with less, %s with more", s, got, need, less, more)
		}
	}
}

// onParams has something done with the list of the third definition's parameters, and what lies behind its length, and answers a copy.
func onParams(do func(list []string, q *api.Program)) words.Call {
	return func(p api.Program) api.Program {
		q := made.Copied(p)
		list := p.Defs[2].Params
		do(list[:cap(list)], &q)
		return q
	}
}

// TestCalls has calls that do what they should, or of which each does something that it shouldn't.
func TestCalls(t *testing.T) {
	count, first := 0, api.Program{}
	for _, row := range []struct {
		name  string
		call  words.Call
		wrong string // the first letters of those that ought to tell that something is wrong
	}{
		{"flat", flat.Program, ""}, {"fresh", fresh.Program, ""}, {"a copy", made.Copied, ""},
		{"what was handed in", func(p api.Program) api.Program { return p }, "K"},
		{"its definitions", func(p api.Program) api.Program { return api.Program{Datas: slices.Clone(p.Datas), Defs: p.Defs} }, "K"},
		{"its types", func(p api.Program) api.Program { return api.Program{Datas: p.Datas, Defs: made.Copied(p).Defs} }, "K"},
		{"its parameters", func(p api.Program) api.Program {
			return api.Program{Datas: slices.Clone(p.Datas), Defs: slices.Clone(p.Defs)}
		}, "K"},
		{"a change", onParams(func(list []string, q *api.Program) {
			list[0] += "'"
			q.Defs[2].Params[0] = list[0]
		}), "AKH"},
		{"a change that doesn't show", onParams(func(list []string, q *api.Program) { list[0] = "b" }), "AKH"},
		{"a change behind a length", onParams(func(list []string, q *api.Program) {
			if len(list) > 1 {
				list[1] = "b"
			}
		}), "K"},
		{"a look behind a length", onParams(func(list []string, q *api.Program) { q.Defs[2].Name = list[len(list)-1] }), "K"},
		{"what came first", func(p api.Program) api.Program {
			if len(first.Defs) == 0 {
				first = made.Copied(p)
			}
			return first
		}, "K"},
		{"another one each time", func(p api.Program) api.Program {
			count++
			return api.Program{Defs: []api.Def{{Name: strconv.Itoa(count)}}}
		}, "AKH"},
	} {
		p := named(t, "(def f (a) (case a ((P b _) (fn (c) (b c))) (_ a)))")
		_, wrong := words.Again(made.Copied(p), row.call)
		got := ""
		if wrong != "" {
			got += "A"
		}
		if words.Kept(made.Copied(p), row.call) != "" {
			got += "K"
		}
		if words.Hangs([]api.Program{made.Copied(p), made.Copied(p)}, row.call) != "" {
			got += "H"
		}
		if got != row.wrong {
			t.Errorf("%s: %q tell that something is wrong, not %q", row.name, got, row.wrong)
		}
	}
}

func TestNoNames(t *testing.T) {
	for body, have := range map[string]bool{
		"1": true, "(x 1 x)": true, "(P 1 x)": true, "(g (g x))": false, "((g x) x)": false, "(P 1 (g x))": false, "(g (fn (y) y))": false, "(+ (g x) 1)": true, "(let ((y (g x))) (g y))": true, "(let ((y (g (P 1 2)))) y)": false, "(case (g x) ((P a b) (a b)) (_ (g (+ 1 2))))": false, "(fn (y) (g (g y)))": false,
	} {
		if wrong := words.NoNames(named(t, "(def f (x) "+body+")")); (wrong == "") != have {
			t.Errorf("%s: %q", body, wrong)
		}
	}
}

// TestOtherHeads turns all that a program has but bodies.
func TestOtherHeads(t *testing.T) {
	p := named(t, "(def f (a b) (a b))")
	for i, turn := range []func(*api.Program){
		func(q *api.Program) {}, func(q *api.Program) { q.Defs[2].Body = api.Expr{} },
		func(q *api.Program) { q.Datas[0].Name = "Q" }, func(q *api.Program) { q.Defs[2].Name = "k" }, func(q *api.Program) { q.Defs[2].Params[1] = "c" }, func(q *api.Program) { q.Defs[2].Pos++ }, func(q *api.Program) { q.Defs = q.Defs[:2] }, func(q *api.Program) { slices.Reverse(q.Defs) },
	} {
		q := made.Copied(p)
		turn(&q)
		if wrong := words.OtherHeads(p, q); (wrong == "") != (i < 2) {
			t.Errorf("turn %d: %q", i, wrong)
		}
	}
}

// TestSteps has programs with the outcome of (g 1), that is 1, or with another one, and with as many steps as that, or more.
func TestSteps(t *testing.T) {
	program := func(s string) api.Program {
		p, wrong := made.Named("(data P (a b) (P a b)) (def g (x) x) (def main () " + s + ")")
		if wrong != "" {
			t.Fatal(wrong)
		}
		return p
	}
	for s, least := range map[string]int{"(g 1)": 1, "1": 1, "(g (g 1))": 2, "(g (g (g (g 1))))": 3, "(g 2)": 0, "(/ 1 0)": 0, "(P 1 1)": 0} {
		for times := range 4 {
			outcome, wrong := words.Steps(program("(g 1)"), program(s), times+1, 100)
			if right := least > 0 && times+1 >= least; outcome != "1" || (wrong == "") != right {
				t.Errorf("%s, in %d times as many steps: %q %q", s, times+1, outcome, wrong)
			}
		}
	}
	if outcome, wrong := words.Steps(program("(g 1)"), program("2"), 1, 3); outcome != "" || wrong != "" {
		t.Error("in too few words:", outcome, wrong)
	}
}
