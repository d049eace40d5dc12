package infer

import (
	"fmt"
	"strings"
	"testing"
)

// checkMain asks whether main's type is one of values, ahead of other definitions and behind them.
func checkMain(t *testing.T, datas, body, want string, right bool) {
	t.Helper()
	for _, s := range []string{datas + "|(def main () " + body + ") (def it () " + body + ")", "(def f (x) x)" + datas + "(def it () " + body + ") |(def main () " + body + ")"} {
		if !right {
			checkNone(t, s)
			continue
		}
		s, at := marked(s)
		list := []string{want, want}
		if strings.HasPrefix(s[at:], "(def main") && strings.HasPrefix(s, "(def f") {
			list = []string{"(-> t0 t0)", want, want}
		}
		checkTypes(t, s, list...)
	}
}

// TestMainOfValues has main with types that are of values, and with types that aren't, though their definitions have them.
func TestMainOfValues(t *testing.T) {
	for body, want := range map[string]string{
		"1": "Int", "True": "Bool", "(cpx 1 2)": "Cpx", "Nil": "(List t0)", "(Cons (P 1 U) Nil)": "(List (P Int U))", "(let ((x x)) x)": "t0", "(let ((x x)) (P x (L x)))": "(P t0 (L t1))",
		"Leaf": "(Tree t0)", "(Node Leaf 1 Leaf)": "(Tree Int)", "(Nest 1 End)": "(Nest Int)", "(In No 1)": "(In t0)", "Ph": "(Ph t0)", "(E 1 2 3 4 5 6 7 8)": "(E Int Int Int Int Int Int Int Int)",
		"((fn (x) 1) (fn (x) x))": "Int", "(case (Fun (fn (x) x)) ((Fun f) (f 1)))": "Int", "(case N (N 1))": "Int",
	} {
		checkMain(t, datas, body, want, true)
	}
	for _, body := range []string{
		"(fn (x) x)", "(fn (x) (+ x 1))", "(P 1 (fn (x) x))", "(Cons (fn (x) x) Nil)", "(L (L (L (fn (x) 1))))", "(Fun (fn (x) x))", "(L (Fun (fn (x) x)))", "N", "(M 1 Nil (fn (x) (cpx x x)))", "(P 1 (Cons N Nil))",
		"(let ((x x)) (Fun x))", "(Node Leaf (Fun (fn (x) x)) Leaf)", "(E 1 2 3 4 5 6 7 N)",
	} {
		checkMain(t, datas, body, none, false)
	}
}

// TestFieldsOfMain has types whose fields are, as they are written, of values, or not, in themselves or in what they are of; each main is a constructor without fields, so that its type alone decides.
func TestFieldsOfMain(t *testing.T) {
	for datas, right := range map[string]bool{
		"(data T () (C))":                                                                             true,
		"(data T () (C) (D (-> Int Int)))":                                                            false,
		"(data T () (D Int Int (-> Int Int)) (C))":                                                    false,
		"(data T () (A) (B) (C) (D Int) (G Bool Bool))":                                               true,
		"(data T () (C) (D U)) (data U () (A (-> U U)))":                                              false,
		"(data U () (A (-> Int Int))) (data T () (C) (D U))":                                          false,
		"(data U () (A (-> Int Int))) (data T () (C))":                                                true,
		"(data U () (A (-> Int T))) (data T () (C) (D Int))":                                          true,
		"(data T () (C) (D U)) (data U () (A V)) (data V () (B Int (-> V V)))":                        false,
		"(data T () (C) (D U)) (data U () (A V)) (data V () (B Int Cpx))":                             true,
		"(data T () (C) (D U)) (data U () (A V)) (data V () (B T W)) (data W () (G (-> W W)))":        false,
		"(data T () (C) (D U)) (data U () (A V)) (data V () (B T W)) (data W () (G T U V W))":         true,
		"(data T () (C) (D T))":                                                                       true,
		"(data T () (C) (D T) (G (-> T T)))":                                                          false,
		"(data T () (C) (D U T)) (data U () (A T U))":                                                 true,
		"(data T () (C) (D U T)) (data U () (A T (-> U U)))":                                          false,
		"(data T () (C) (D (L (-> Int Int)))) (data L (a) (N) (M a (L a)))":                           false,
		"(data T () (C) (D (L (L (L (-> Int Int)))))) (data L (a) (N) (M a (L a)))":                   false,
		"(data T () (C) (D (L (L (L Int))))) (data L (a) (N) (M a (L a)))":                            true,
		"(data T () (C) (D (L (L (L U))))) (data L (a) (N) (M a (L a))) (data U () (A (L (-> U U))))": false,
		"(data T () (C) (D (L (P Int (-> Int Int))))) (data L (a) (N)) (data P (a b) (Q a b))":        false,
		"(data T () (C) (D (Ph (-> Int Int)))) (data Ph (a) (N))":                                     false,
		"(data T () (C) (D (Ph U))) (data Ph (a) (N)) (data U () (A (-> Int Int)))":                   false,
		"(data T () (C) (D (Ph U))) (data Ph (a) (N)) (data U () (A Int))":                            true,
	} {
		checkMain(t, datas, "C", "T", right)
	}
}

// TestFieldsOfMainWithParameters has main's type be of others: what stands in it counts, whether or not a field is of it.
func TestFieldsOfMainWithParameters(t *testing.T) {
	const datas = "(data T (a) (C)) (data W (a) (D a)) (data F () (G (-> Int Int)) (H)) (data Z (f) (X (Y f)) (S)) (data Y (f) (V (-> f f)) (R)) "
	for body, want := range map[string]string{"C": "(T t0)", "(D C)": "(W (T t0))", "(D (D 1))": "(W (W Int))"} {
		checkMain(t, datas, body, want, true)
	}
	for _, body := range []string{"(D (fn (x) x))", "(D H)", "(D (D (D H)))", "S", "R", "(D R)", "(D S)", "(G (fn (x) x))"} {
		checkMain(t, datas, body, none, false)
	}
	// of is (-> a (T a)), so that a's type is in main's, and in none of its fields.
	const of = "(data T (a) (C) (O a)) (def of (x) (case 1 (1 C) (_ (O x)))) "
	checkTypes(t, of+"(def main () (of 1))", "(-> t0 (T t0))", "(T Int)")
	checkNone(t, of+"|(def main () (of (fn (x) x)))")
	checkNone(t, of+"(data F () (G (-> Int Int)) (H)) |(def main () (of H))")
	const shown = "(data T (a) (C)) (data Ty (a) (Ty (T a) a)) (def of (x) (case (Ty C x) ((Ty c _) c))) "
	checkTypes(t, shown+"(def main () (of 1))", "(-> t0 (T t0))", "(T Int)")
	checkNone(t, shown+"|(def main () (of (fn (x) x)))")
	checkNone(t, shown+"(data F () (G (-> Int Int)) (H)) |(def main () (of H))")
	checkTypes(t, shown+"(data F () (G (-> Int Int)) (H)) (def main () 1) (def it () (of H))", "(-> t0 (T t0))", "Int", "(T F)")
}

// TestRingOfTypes has as many types as there may be, each in a field of the one ahead of it, and the first in one of the last.
func TestRingOfTypes(t *testing.T) {
	for last, right := range map[string]bool{"T0": true, "Int": true, "(-> T0 T0)": false} {
		for _, from := range []int{0, 50, 98} {
			var text strings.Builder
			for i := range 98 {
				fmt.Fprintf(&text, "(data T%d () (C%d) (D%d T%d))", i, i, i, i+1)
			}
			fmt.Fprintf(&text, "(data T98 () (C98) (D98 %s))", last)
			s := text.String() + "|(def main () C" + fmt.Sprint(from) + ")"
			if !right {
				checkNone(t, s)
				continue
			}
			s, _ = marked(s)
			checkTypes(t, s, fmt.Sprint("T", from))
		}
	}
}

// TestNoneAheadOfMain: a group without types is told ahead of main, even if main is in an earlier one.
func TestNoneAheadOfMain(t *testing.T) {
	checkNone(t, "(def main () (fn (x) x)) (def f () 1) |(def g () (f 1))")
	checkNone(t, "|(def g () (f 1)) (def f () 1) (def main () (fn (x) x))")
	checkNone(t, "|(def g () (f 1)) (def f () (1 g)) (def main () (fn (x) x))")
	checkNone(t, "|(def main () (fn (x) x)) (def f () 1)")
}
