package infer

import (
	"fmt"
	"slices"
	"strings"
	"testing"
	"time"
)

// soon is far more time than any call takes, and far less than one that goes through all parts of a great type would.
const soon = 20 * time.Second

// soonAnswer is what Types answers; it is told if it doesn't end.
func soonAnswer(t *testing.T, s string) string {
	t.Helper()
	p := parsed(t, s)
	done := make(chan string, 1)
	go func() { done <- answer(t, p) }()
	select {
	case got := <-done:
		return got
	case <-time.After(soon):
		t.Fatalf("%s: it doesn't end soon", s)
	}
	return ""
}

// each is a text, times over; in it $ stands for the turn's number, and @ for that of the turn ahead, of which there is none in the first turn.
func each(text string, times int) string {
	var s strings.Builder
	for i := range times {
		ahead := fmt.Sprint(i - 1)
		if i == 0 {
			ahead = ""
		}
		s.WriteString(strings.NewReplacer("$", fmt.Sprint(i), "@", ahead).Replace(text))
	}
	return s.String()
}

func shut(text string, times int) string { return strings.Repeat(text, times) }

const soonDatas = "(data P (a b) (P a b)) (data Same (a) (Same a a)) (data Nest (a) (End) (Nest a (Nest (P a a)))) (def main () 1) (def k (x) 1) (def a (x) (P x x)) "

// TestTwofoldDefinitions has definitions whose types would have twice as many parts again and again.
func TestTwofoldDefinitions(t *testing.T) {
	for text, first := range map[string]string{
		"(def b () 1)" + each("(def b$ () (P b@ b@))", 90):            "(def b8 ",
		"(def b () 1)" + each("(def b$ () (P b@ (fn (x) b@)))", 90):   "(def b7 ",
		each("(def a$ (x) (a@ (a@ x)))", 90):                          "(def a3 ",
		each("(def a$ (x) (P (a@ x) (a@ x)))", 90):                    "(def a7 ",
		each("(def b$ () (P b@ b@))", 90) + "(def b () b89)":          "(def b0 ",
		each("(def b$ (x) (P (b@ x) (b@ x)))", 90) + "(def b (x) b0)": "(def b0 ",
	} {
		s := soonDatas + text
		if got, want := soonAnswer(t, s), fmt.Sprint("none at ", strings.Index(s, first)); got != want {
			t.Errorf("%s: %.300s, not %s", s, got, want)
		}
	}
}

// TestTwofoldExpressions has expressions whose types would have twice as many parts with each list in which they stand, and have types while these are few.
func TestTwofoldExpressions(t *testing.T) {
	for what, x := range map[string]func(n int) string{
		"lets":              func(n int) string { return "(fn (a) " + each("(let ((a$ (P a@ a@))) ", n) + "1" + shut(")", n+1) },
		"lets of functions": func(n int) string { return each("(let ((a$ (fn (x) (a@ (a@ x))))) ", n) + "1" + shut(")", n) },
		"lets of both":      func(n int) string { return each("(let ((a$ (fn (x) (P (a@ x) (a@ x))))) ", n) + "1" + shut(")", n) },
		"cases": func(n int) string {
			return "(fn (a) " + each("(case (P a@ a@) (a$ ", n/2) + "1" + shut("))", n/2) + ")"
		},
		"cases of pairs": func(n int) string {
			return "(fn (a) " + each("(case a@ ((P a$ x$) (case (Same a$ x$) (_ ", n/4+1) + "1" + shut("))))", n/4+1) + ")"
		},
		"applications": func(n int) string { return each("(a ", n) + "1" + shut(")", n) },
		"nests":        func(n int) string { return "(let ((u u)) " + each("(Nest u ", n) + "End" + shut(")", n+1) },
		"patterns":     func(n int) string { return "(case End (" + each("(Nest x$ ", n) + "_" + shut(")", n) + " 1))" },
		"functions": func(n int) string {
			return "(let ((c (fn (f g x) (f (g x))))) (" + each("(c a ", n) + "a" + shut(")", n) + " 1))"
		},
	} {
		for _, n := range []int{1, 2, 4, 20, 32} {
			s := soonDatas + "(def it () " + x(n) + ")"
			got, want := soonAnswer(t, s), fmt.Sprint("none at ", strings.Index(s, "(def it "))
			if n < 4 && strings.HasPrefix(got, "none") || n > 20 && got != want {
				t.Errorf("%d %s: %.300s", n, what, got)
			}
		}
	}
}

// all is an expression that is a number, as all in the list are.
func all(list []string) string {
	var cases []string
	for some := range slices.Chunk(list, 14) {
		cases = append(cases, "(case 1(_ "+strings.Join(some, ")(_ ")+"))")
	}
	if len(cases) > 1 {
		return all(cases)
	}
	return cases[0]
}

// functionOf is a function of all names.
func functionOf(names []string, x string) string {
	count := 0
	for some := range slices.Chunk(names, 8) {
		x = "(fn (" + strings.Join(some, " ") + ") " + x
		count++
	}
	return x + shut(")", count)
}

// TestTwofoldNames has names whose types have each the next one's twice, as it comes out from the first one on, from the last one on, and from both ends.
func TestTwofoldNames(t *testing.T) {
	for _, n := range []int{3, 7, 80} {
		var names, down []string
		for i := range n {
			names = append(names, fmt.Sprint("n", i))
		}
		for i := range n - 1 {
			down = append(down, fmt.Sprintf("(k(Same n%d(P n%d n%d)))", i, i+1, i+1))
		}
		up := slices.Clone(down)
		slices.Reverse(up)
		var ends []string
		for i := range n - 1 {
			ends = append(ends, [][]string{down, up}[i%2][i/2])
		}
		for _, list := range [][]string{down, up, ends} {
			for _, last := range []string{"1", "(k n0)", fmt.Sprintf("(k n%d)", n-1), "(let ((z n0)) 1)", "(case n0 ((P x y) (k (Same x y))))"} {
				s := soonDatas + "(def it () " + functionOf(names, all(append(slices.Clone(list), last))) + ")"
				if got := soonAnswer(t, s); strings.HasPrefix(got, "none") != (n > 7) {
					t.Errorf("%d names, %s: %.300s", n, last, got)
				}
			}
			s := soonDatas + "(def it () " + functionOf(names, all(append(slices.Clone(list), fmt.Sprintf("(k(Same n0(P n%d n0)))", n-1)))) + ")"
			if got := soonAnswer(t, s); !strings.HasPrefix(got, "none") {
				t.Errorf("%d names, one in itself: %.300s", n, got)
			}
		}
	}
}
