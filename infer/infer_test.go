package infer

import (
	"strings"
	"testing"

	"reverie/api"
)

func TestExamples(t *testing.T) {
	checkTypes(t, "(def main () (+ 40 2))", "Int")
	checkTypes(t, "(def main () (let ((x x)) x))", "t0")
	checkNone(t, "|(def main () (+ 1 True))")
	checkTypes(t, "(def twice (f x) (f (f x))) (def main () 1)", "(-> (-> t0 t0) (-> t0 t0))", "Int")
	checkTypes(t, "(def main () (cmul (cpx 1 2) (cpx 3 4)))", "Cpx")
}

func TestNumbers(t *testing.T) {
	checkExprs(t, map[string]string{"0": "Int", "-7": "Int", "999999999999999999": "Int", "(1 2)": none, "(fn (x) 1)": "(-> t0 Int)"})
}

// TestOperations has each with what it takes, and with each other type in each place.
func TestOperations(t *testing.T) {
	values := map[string]string{"Int": "7", "Bool": "True", "Cpx": "(cpx 1 2)", "(List Int)": "(Cons 1 Nil)", "(-> Int Int)": "(fn (x) (+ x 1))"}
	held := 0
	for op, takes := range map[string]string{"+": "Int", "-": "Int", "*": "Int", "/": "Int", "%": "Int", "=": "Int", "<": "Int", "cpx": "Int", "re": "Cpx", "im": "Cpx", "cadd": "Cpx", "cmul": "Cpx"} {
		makes := map[string]string{"=": "Bool", "<": "Bool", "cpx": "Cpx", "cadd": "Cpx", "cmul": "Cpx"}[op]
		if makes == "" {
			makes = "Int"
		}
		count := api.Prims()[op]
		for first, a := range values {
			if count == 1 {
				want := makes
				if first != takes {
					want = none
				}
				checkExpr(t, "("+op+" "+a+")", want)
				held++
				continue
			}
			for second, b := range values {
				want := makes
				if first != takes || second != takes {
					want = none
				}
				checkExpr(t, "("+op+" "+a+" "+b+")", want)
				held++
			}
		}
		params := []string{"x", "y"}[:count]
		checkExpr(t, "(fn ("+strings.Join(params, " ")+") ("+op+" "+strings.Join(params, " ")+"))", strings.Repeat("(-> "+takes+" ", count)+makes+strings.Repeat(")", count))
	}
	if held != 10*25+2*5 {
		t.Error("not all operations were held:", held)
	}
}

func TestFunctions(t *testing.T) {
	checkExprs(t, map[string]string{
		"(fn (x) x)":                         "(-> t0 t0)",
		"(fn (x y) x)":                       "(-> t0 (-> t1 t0))",
		"(fn (x y) y)":                       "(-> t0 (-> t1 t1))",
		"(fn (y x) (+ x 1))":                 "(-> t0 (-> Int Int))",
		"(fn (a b c d e f g h) g)":           "(-> t0 (-> t1 (-> t2 (-> t3 (-> t4 (-> t5 (-> t6 (-> t7 t6))))))))",
		"(fn (a b c d e f g h) (P h (a c)))": "(-> (-> t0 t1) (-> t2 (-> t0 (-> t3 (-> t4 (-> t5 (-> t6 (-> t7 (P t7 t1)))))))))",
		"(fn (x) (fn (x) x))":                "(-> t0 (-> t1 t1))",
		"(fn (x) (fn (y) x))":                "(-> t0 (-> t1 t0))",
		"(fn (x) (P (fn (x) (+ x 1)) x))":    "(-> t0 (P (-> Int Int) t0))",
		"(fn (x) (P x (fn (x) (+ x 1))))":    "(-> t0 (P t0 (-> Int Int)))",
		"(fn (x) (x x))":                     none,
		"(fn (x) (+ x (x 1)))":               none,
		"(fn (x) (P (+ x 1) (re x)))":        none,
		"(fn (f) (P (f 1) (f True)))":        none,
		"(fn (main) (re main))":              "(-> Cpx Int)",
	})
}

func TestApplications(t *testing.T) {
	checkExprs(t, map[string]string{
		"((fn (x) x) 1)":                             "Int",
		"((fn (x y) x) 1)":                           "(-> t0 Int)",
		"((fn (x y) x) 1 True)":                      "Int",
		"((fn (x y z) (P x z)) 1 U)":                 "(-> t0 (P Int t0))",
		"((fn (x) (fn (y) (P y x))) 1 True)":         "(P Bool Int)",
		"((fn (x) x) (fn (y) y) 1)":                  "Int",
		"((fn (x) x) (fn (y) y) (fn (y) y) True)":    "Bool",
		"((fn (x) 1) 1 2)":                           none,
		"((fn (x) (+ x 1)) True)":                    none,
		"((fn (x y) (+ (x 1) y)) (fn (z) z) U)":      none,
		"(fn (f) (f 1))":                             "(-> (-> Int t0) t0)",
		"(fn (f) (f 1 True U))":                      "(-> (-> Int (-> Bool (-> U t0))) t0)",
		"(fn (f x y) (f y x))":                       "(-> (-> t0 (-> t1 t2)) (-> t1 (-> t0 t2)))",
		"(fn (f g x) (f (g x)))":                     "(-> (-> t0 t1) (-> (-> t2 t0) (-> t2 t1)))",
		"(fn (f g x) (f x (g x)))":                   "(-> (-> t0 (-> t1 t2)) (-> (-> t0 t1) (-> t0 t2)))",
		"(fn (f) (f f))":                             none,
		"(fn (f a b c d e g h) (f a b c d e g h 1))": "(-> (-> t0 (-> t1 (-> t2 (-> t3 (-> t4 (-> t5 (-> t6 (-> Int t7)))))))) (-> t0 (-> t1 (-> t2 (-> t3 (-> t4 (-> t5 (-> t6 t7))))))))",
		"(fn (f) (+ (f 1) (f 2)))":                   "(-> (-> Int Int) Int)",
		"(fn (f) ((f 1) (f 2)))":                     none,
		"(fn (f x) (f (f x)))":                       "(-> (-> t0 t0) (-> t0 t0))",
		"(fn (f x) (f x (f x x)))":                   "(-> (-> t0 (-> t0 t0)) (-> t0 t0))",
		"(fn (f x) (f (f x) x))":                     none,
		"(fn (f) (fn (x) (f (x x))))":                none,
	})
}
