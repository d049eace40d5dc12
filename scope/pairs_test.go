package scope

import (
	"strings"
	"testing"

	"reverie/api"
)

// fault is a thing that can be wrong, alone in its text, with a mark at its place; # stands for something of which each text has its own. Faults of an earlier turn are told ahead of those of a later one, whatever their places.
type fault struct {
	turn int
	text string
}

func faults() []fault {
	const data = "(data T# (t) (S# Int) (R# t (T# t))) "
	list := []fault{
		{1, "|(data Int () (C#))"}, {1, "|(data Bool (a a) (C# b))"}, {1, "|(data Cpx () (C#))"}, {1, data + "|(data T# () (C#))"}, {1, data + "|(data T# (a a) (S#) (True))"},
		{2, "|(data T# (a b a) (C#))"}, {2, "(data T# () (C#) |(C#))"}, {2, "(data T# () (C#)) (data U# () |(C# Int))"}, {2, "(data T# () |(False))"}, {2, "(data T# () (C#) |(True Int))"},
		{2, "(data T# (a) (C# Int |b))"}, {2, "(data T# (a) (C# (-> |b a)))"}, {2, "(data T# () (C# |Nope))"}, {2, "(data T# (a) (C# (T# |T#)))"}, {2, "(data T# () (C# |(Int Int)))"}, {2, "(data T# (a) (C# (T# (-> a |(T# a a)))))"},
		{3, "(def f# () 1) |(def f# () 2)"}, {3, "(def f# (x x) y) |(def f# () Nope)"},
		{4, "|(def f# (x y x) 1)"}, {4, "|(def f# (x x) nope)"}, {5, "|(def main (x) 1)"},
	}
	for _, m := range bodies() {
		list = append(list, fault{4, data + "(def f# (p#) " + m + ")"}, fault{4, "(def f# (p#) (fn (q) (re " + m + "))) " + data})
	}
	return list
}

// bodies are expressions that have one fault each, in a program with the type of data.
func bodies() []string {
	return append([]string{
		"|x#", "(f# |y#)", "(+ 1 |x#)", "|(fn (x x) 1)", "|(let ((x 1) (x x)) x)", "(fn (x) (x |z#))", "(let ((x x)) |z#)",
		"|Nope#", "|(Nope# 1)", "|S#", "|(S# 1 2)", "|(R# 1)", "|(True 1)", "(S# |R#)",
	}, cases()...)
}

// cases are those of bodies that have their fault in a pattern, or by way of one.
func cases() []string {
	return []string{
		"(case f# (|Nope# 1))", "(case f# ((S# |(Nope# x)) x))", "(case f# (|S# 1))", "(case f# (|(S# x y) x))", "(case f# (|(R# 1) 1))", "(case f# (1 1) (|(False _) 1))",
		"(case f# ((R# x |x) x))", "(case f# ((R# (R# x y) (R# z |y)) x))", "(case f# ((S# x) |y#))", "(case f# ((S# x) x) (_ |x))",
	}
}

func own(m, number string) string { return strings.ReplaceAll(m, "#", number) }

// checkMain asks with a main that is right, unless the text has one.
func checkMain(t *testing.T, s string, want int) {
	t.Helper()
	if !strings.Contains(s, "(def main ") {
		s += " (def main () 1)"
	}
	checkPlace(t, s, want, api.ErrScope)
}

func TestOneFault(t *testing.T) {
	for _, f := range faults() {
		s, at := marked(own(f.text, "0"))
		checkMain(t, s, at)
		checkMain(t, "(data V () (V)) (def v (x) V) "+s, at+30)
	}
}

// TestTwoFaults has each two faults, in either order: that of the earlier turn is told, and of one turn the first.
func TestTwoFaults(t *testing.T) {
	for _, a := range faults() {
		for _, b := range faults() {
			if a.turn == 5 && b.turn == 5 {
				continue
			}
			first, firstAt := marked(own(a.text, "1"))
			second, secondAt := marked(own(b.text, "2"))
			want := firstAt
			if b.turn < a.turn {
				want = len(first) + 1 + secondAt
			}
			checkMain(t, first+"\n"+second, want)
		}
	}
}

// TestFaultWithoutMain has no main beside each other fault, which comes ahead of that.
func TestFaultWithoutMain(t *testing.T) {
	for _, f := range faults() {
		if s, at := marked(own(f.text, "0")); f.turn < 5 {
			checkPlace(t, s, at, api.ErrScope)
		}
	}
}

// TestThreeFaults has those of the turns from the last one on to the first, and from the first one on.
func TestThreeFaults(t *testing.T) {
	turns := []string{"|(data T1 () (C1)) ", "(data V () (V |x)) ", "(def f () nope) |(def f () nope) ", "(def g () |nope) ", "|(def main (x) x) "}
	turns[0] = "(data T1 () (B1)) " + turns[0]
	for from := range turns {
		up, down := "", ""
		for _, m := range turns[from+1:] {
			s, _ := marked(m)
			up, down = up+s, s+down
		}
		s, at := marked(turns[from])
		checkPlace(t, s+up, at, api.ErrScope)
		checkPlace(t, down+s, len(down)+at, api.ErrScope)
	}
}

const pairData = "(data T1 (t) (S1 Int) (R1 t (T1 t))) (data T2 (t) (S2 Int) (R2 t (T2 t))) (def f1 (x) x) (def f2 (x y) x) (def main () "

// checkBody asks of a body that it is wrong at its mark.
func checkBody(t *testing.T, m string) {
	t.Helper()
	s, at := marked(pairData + m + ")")
	checkPlace(t, s, at, api.ErrScope)
}

// TestTwoFaultsOfOneBody has each two in each place where two may stand: the left one is told.
func TestTwoFaultsOfOneBody(t *testing.T) {
	contexts := []string{
		"(f1 @1 @2)", "(+ @1 @2)", "(cmul (re @1) @2)", "(R1 @1 @2)", "((fn (u) @1) @2)", "(f1 (fn (u v) (u @1)) (S1 @2))",
		"(let ((u @1) (v @2)) u)", "(let ((u v) (v @1)) @2)", "(let ((u (let ((v @1)) @2))) u)", "(case @1 (1 @2))", "(case @1 (1 1) (u @2))", "(case f1 (1 @1) (u @2))", "(case f1 ((S1 u) @1) ((R1 u v) @2) (_ 1))",
	}
	for _, a := range bodies() {
		for _, b := range bodies() {
			left := own(a, "1")
			right, _ := marked(own(b, "2"))
			for _, around := range contexts {
				checkBody(t, strings.Replace(strings.Replace(around, "@1", left, 1), "@2", right, 1))
			}
		}
	}
}

// TestFaultsOutsideIn has each fault within an expression that is wrong itself: that is told.
func TestFaultsOutsideIn(t *testing.T) {
	for _, m := range bodies() {
		in, _ := marked(own(m, "1"))
		for _, around := range []string{
			"|(Nope @)", "|(S1 @ 1)", "|(R1 @)", "|(True @)", "|(fn (u u) @)", "|(let ((u @) (u 1)) u)", "|(let ((u 1) (u @)) u)", "|(let ((u 1) (u 2)) @)",
			"(f1 |nope @)", "(case |nope (u @))", "(case f1 (|Nope @))", "(case f1 (|S1 @))", "(case f1 ((R1 u |u) @))", "(case f1 ((S1 u) 1) ((R1 (S1 u) |u) @))", "(case f1 (|Nope 1) (u @))", "(case f1 (u |nope) (Nope @))",
		} {
			checkBody(t, strings.Replace(around, "@", in, 1))
		}
	}
}

// TestFaultsOfOneCase has, in their order, what is looked at, a pattern, the expression behind it, the next pattern, and so on: from each on all are wrong.
func TestFaultsOfOneCase(t *testing.T) {
	right := []string{"f1", "u", "1", "(S1 u)", "u", "_", "f2"}
	wrong := []string{"|nope", "|Nope", "|S1", "(R1 u |u)", "|(fn (u u) 1)", "|(S1 u w)", "(f1 |v)"}
	for from := range right {
		nodes := append(append([]string{}, right[:from]...), wrong[from])
		for _, m := range wrong[from+1:] {
			s, _ := marked(m)
			nodes = append(nodes, s)
		}
		checkBody(t, "(case "+nodes[0]+" ("+nodes[1]+" "+nodes[2]+") ("+nodes[3]+" "+nodes[4]+") ("+nodes[5]+" "+nodes[6]+"))")
	}
}

// TestTwoFaultsOfOneType has, in their order, all that may be wrong of one type: from each on all are.
func TestTwoFaultsOfOneType(t *testing.T) {
	right := []string{"(data T (a b) ", "(C ", "a ", "(-> a ", "(T a b)) ", "Int) ", "(D ", "b))"}
	wrong := []string{"|(data T (a a) ", "|(True ", "|c ", "(-> |Nope ", "|(T a)) ", "|(Int b)) ", "|(False ", "|U))"}
	for from := range right {
		s := strings.Join(right[:from], "") + wrong[from]
		for _, m := range wrong[from+1:] {
			more, _ := marked(m)
			s += more
		}
		checkMarked(t, "", []string{s})
		s = strings.Join(right[:from], "") + wrong[from] + strings.Join(right[from+1:], "")
		if from > 0 {
			checkMarked(t, "", []string{s})
		}
	}
}
