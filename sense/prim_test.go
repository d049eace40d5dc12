package sense_test

import (
	"fmt"
	"math"
	"testing"

	"reverie/api"
	"reverie/plain"
	"reverie/plane"
	"reverie/sense"
)

const leastInt, greatestInt = math.MinInt64, math.MaxInt64

// The least and the greatest part of a point.
const leastPart, greatestPart = -1 << 23, 1<<23 - 1

// checkPrim asks what an operation makes, twice.
func checkPrim(t *testing.T, name string, a, b, want sense.Operand, wantE api.Errno) {
	t.Helper()
	for range 2 {
		if got, e := sense.Prim(name, a, b); got != want || e != wantE {
			t.Errorf("%s of %v and %v: %v %d, not %v %d", name, a, b, got, e, want, wantE)
		}
	}
}

// checkNumbers asks what an operation makes of two numbers, whatever points stand beside them.
func checkNumbers(t *testing.T, name string, a, b, want int64) {
	t.Helper()
	for _, p := range []plane.Point{0, plane.Of(3, -4)} {
		checkPrim(t, name, sense.Operand{N: a, P: p}, sense.Operand{N: b, P: p}, sense.Operand{N: want}, api.OK)
	}
}

func TestNumbers(t *testing.T) {
	const l, g = leastInt, greatestInt
	for _, c := range []struct {
		name    string
		a, b, c int64
	}{
		{"+", 40, 2, 42}, {"+", 0, 0, 0}, {"+", -3, 5, 2}, {"+", 3, -5, -2}, {"+", -3, -5, -8}, {"+", g, 1, l}, {"+", l, -1, g}, {"+", g, g, -2}, {"+", l, l, 0}, {"+", l, g, -1}, {"+", g, l, -1}, {"+", g, 0, g}, {"+", 0, l, l},
		{"-", 40, 2, 38}, {"-", 2, 40, -38}, {"-", -3, 5, -8}, {"-", 3, -5, 8}, {"-", -3, -5, 2}, {"-", l, 1, g}, {"-", g, -1, l}, {"-", 0, l, l}, {"-", -1, l, g}, {"-", l, l, 0}, {"-", g, g, 0}, {"-", g, l, -1}, {"-", l, g, 1}, {"-", 0, g, -g},
		{"*", 6, 7, 42}, {"*", -6, 7, -42}, {"*", 6, -7, -42}, {"*", -6, -7, 42}, {"*", 0, -7, 0}, {"*", g, 2, -2}, {"*", l, 2, 0}, {"*", l, -1, l}, {"*", l, 1, l}, {"*", g, g, 1}, {"*", l, l, 0}, {"*", l, g, l}, {"*", g, -1, -g}, {"*", 1 << 32, 1 << 31, l}, {"*", 1 << 32, 1 << 32, 0}, {"*", 3037000500, 3037000500, -9223372036709301616},
		{"/", 42, 6, 7}, {"/", 7, 2, 3}, {"/", -7, 2, -3}, {"/", 7, -2, -3}, {"/", -7, -2, 3}, {"/", 1, 2, 0}, {"/", -1, 2, 0}, {"/", 1, -2, 0}, {"/", 0, 5, 0}, {"/", 0, -5, 0}, {"/", l, -1, l}, {"/", l, 1, l}, {"/", g, -1, -g}, {"/", l, 2, l / 2}, {"/", l, l, 1}, {"/", g, l, 0}, {"/", l, g, -1}, {"/", g, g, 1}, {"/", 5, l, 0},
		{"%", 42, 6, 0}, {"%", 7, 2, 1}, {"%", -7, 2, -1}, {"%", 7, -2, 1}, {"%", -7, -2, -1}, {"%", 1, 2, 1}, {"%", -1, 2, -1}, {"%", 1, -2, 1}, {"%", 0, 5, 0}, {"%", 0, -5, 0}, {"%", l, -1, 0}, {"%", l, 1, 0}, {"%", g, -1, 0}, {"%", l, 3, -2}, {"%", l, l, 0}, {"%", g, l, g}, {"%", l, g, -1}, {"%", g, g, 0}, {"%", -5, l, -5},
		{"=", 1, 1, 1}, {"=", 1, 2, 0}, {"=", 2, 1, 0}, {"=", 0, 0, 1}, {"=", -1, 1, 0}, {"=", -1, -1, 1}, {"=", l, l, 1}, {"=", g, g, 1}, {"=", l, g, 0}, {"=", g, l, 0}, {"=", 1 << 32, 0, 0}, {"=", 0, 1 << 53, 0}, {"=", 1 << 53, 1<<53 + 1, 0}, {"=", g, g - 1, 0},
		{"<", 1, 2, 1}, {"<", 2, 1, 0}, {"<", 1, 1, 0}, {"<", -1, 1, 1}, {"<", 1, -1, 0}, {"<", -2, -1, 1}, {"<", -1, -2, 0}, {"<", 0, 0, 0}, {"<", l, g, 1}, {"<", g, l, 0}, {"<", l, l, 0}, {"<", g, g, 0}, {"<", l, l + 1, 1}, {"<", g - 1, g, 1}, {"<", g, g - 1, 0}, {"<", l, 0, 1}, {"<", 0, l, 0}, {"<", 1 << 53, 1<<53 + 1, 1},
	} {
		checkNumbers(t, c.name, c.a, c.b, c.c)
	}
}

func TestDivisionsByNought(t *testing.T) {
	for _, name := range []string{"/", "%"} {
		for _, a := range []int64{0, 1, -1, 42, leastInt, greatestInt} {
			checkPrim(t, name, sense.Operand{N: a}, sense.Operand{}, sense.Operand{}, api.ErrDiv)
			checkPrim(t, name, sense.Operand{N: a, P: plane.Of(1, 2)}, sense.Operand{P: plane.Of(3, 4)}, sense.Operand{}, api.ErrDiv)
		}
	}
}

// all are numbers of each sign, near nought, near the ends, and near the ends of halves and parts.
func all() (list []int64) {
	for _, n := range []int64{0, leastInt, greatestInt, leastPart, greatestPart, 1 << 24, -1 << 24, 1 << 31, -1 << 31, 1 << 32, -1 << 32, 1 << 53, 3037000500, -3037000500, 1 << 62, -1 << 62, 12345, -12345} {
		for d := range int64(5) {
			list = append(list, n+d-2)
		}
	}
	return list
}

// TestAllNumbers holds each operation against the plain way, of numbers of all sorts.
func TestAllNumbers(t *testing.T) {
	for _, a := range all() {
		for _, b := range all() {
			for _, name := range []string{"+", "-", "*", "/", "%", "=", "<", "cpx"} {
				if b == 0 && (name == "/" || name == "%") {
					continue
				}
				switch made := operate(name, []any{a, b}).(type) {
				case int64:
					checkNumbers(t, name, a, b, made)
				case bool:
					checkNumbers(t, name, a, b, map[bool]int64{true: 1}[made])
				case point:
					checkPrim(t, name, sense.Operand{N: a, P: plane.Of(5, 6)}, sense.Operand{N: b, P: 7}, sense.Operand{P: plane.Of(made.re, made.im)}, api.OK)
				}
			}
		}
	}
}

// TestAllPoints holds each operation on points against the plain way, at the ends, near nought, and between.
func TestAllPoints(t *testing.T) {
	var list []point
	parts := []int64{leastPart, leastPart + 1, -4097, -2, -1, 0, 1, 2, 3000, greatestPart - 1, greatestPart}
	for _, re := range parts {
		for _, im := range parts {
			list = append(list, point{re, im})
		}
	}
	for _, p := range list {
		a := sense.Operand{N: 9, P: plane.Of(p.re, p.im)}
		for _, q := range list {
			b := sense.Operand{N: -9, P: plane.Of(q.re, q.im)}
			for _, name := range []string{"cadd", "cmul"} {
				made := operate(name, []any{p, q}).(point)
				checkPrim(t, name, a, b, sense.Operand{P: plane.Of(made.re, made.im)}, api.OK)
			}
			checkPrim(t, "re", a, b, sense.Operand{N: p.re}, api.OK)
			checkPrim(t, "im", a, b, sense.Operand{N: p.im}, api.OK)
		}
	}
}

func TestPoints(t *testing.T) {
	const l, g = leastPart, greatestPart
	of := func(re, im int64) sense.Operand { return sense.Operand{P: plane.Of(re, im)} }
	for _, c := range []struct {
		name    string
		a, b, c sense.Operand
	}{
		{"cpx", sense.Operand{N: 1}, sense.Operand{N: 2}, of(1, 2)}, {"cpx", sense.Operand{N: l}, sense.Operand{N: g}, of(l, g)}, {"cpx", sense.Operand{N: g + 1}, sense.Operand{N: l - 1}, of(l, g)}, {"cpx", sense.Operand{N: leastInt}, sense.Operand{N: greatestInt}, of(0, -1)},
		{"cadd", of(1, 2), of(3, 4), of(4, 6)}, {"cadd", of(g, l), of(1, -1), of(l, g)}, {"cadd", of(l, g), of(l, g), of(0, -2)},
		{"cmul", of(1, 2), of(3, 4), of(-5, 10)}, {"cmul", of(0, 1), of(0, 1), of(-1, 0)}, {"cmul", of(l, 0), of(-1, 0), of(l, 0)}, {"cmul", of(g, g), of(g, g), of(0, 2)},
		{"re", of(-5, 10), of(3, 4), sense.Operand{N: -5}}, {"im", of(-5, 10), of(3, 4), sense.Operand{N: 10}}, {"re", of(l, g), of(0, 0), sense.Operand{N: l}}, {"im", of(l, g), of(0, 0), sense.Operand{N: g}},
	} {
		checkPrim(t, c.name, c.a, c.b, c.c, api.OK)
	}
}

func TestNoOperations(t *testing.T) {
	a, b := sense.Operand{N: 6, P: plane.Of(1, 2)}, sense.Operand{N: 3, P: plane.Of(3, 4)}
	for _, name := range []string{"", " ", "++", "+ ", " +", "-1", "//", "==", "<=", ">", "->", "_", "Re", "CPX", "cp", "cpxx", "csub", "cdiv", "add", "fn", "let", "case", "def", "data", "True", "x", "&", "plus", "\x00", "−"} {
		checkPrim(t, name, a, b, sense.Operand{}, api.ErrArg)
		checkPrim(t, name, a, sense.Operand{}, sense.Operand{}, api.ErrArg)
	}
	for name := range api.Prims() {
		if _, e := sense.Prim(name, a, b); e != api.OK {
			t.Errorf("%s is an operation: error %d", name, e)
		}
		for _, no := range []string{name + name, name + "'", name[1:]} {
			checkPrim(t, no, a, b, sense.Operand{}, api.ErrArg)
		}
	}
}

// TestOperationsInPrograms holds operations in programs against the plain way.
func TestOperationsInPrograms(t *testing.T) {
	numbers := []int64{0, 1, -1, 2, -2, 7, -7, 999999999999999999, -999999999999999999, leastPart, greatestPart + 1}
	for _, a := range numbers {
		for _, b := range numbers {
			for _, x := range []string{"(+ A B)", "(- A B)", "(* A B)", "(/ A B)", "(% A B)", "(= A B)", "(< A B)", "(cpx A B)", "(re (cpx A B))", "(im (cpx A B))", "(cadd (cpx A B) (cpx B 3))", "(cmul (cpx A B) (cpx 5 A))", "(* (* A A) (- 0 (* B B)))", "(case (< A B) (True 1) (False 2))", "(case (= A B) (False 1) (True 2))"} {
				s := "(def main () " + replaced(x, "A", a, "B", b) + ")"
				p := parsed(t, s)
				want, _ := plain.Run(p, 1000)
				if got := answer(t, p, enough); got != want {
					t.Errorf("%s: %s, not %s", s, got, want)
				}
			}
		}
	}
	checkMains(t, [][2]string{
		{"(+ 40 2)", "42"}, {"(- 40 42)", "-2"}, {"(* -6 7)", "-42"}, {"(/ -7 2)", "-3"}, {"(% -7 2)", "-1"}, {"(= 1 1)", "True"}, {"(= 1 2)", "False"}, {"(< 1 2)", "True"}, {"(< 2 1)", "False"},
		{"(cpx 1 -2)", "(cpx 1 -2)"}, {"(re (cpx 1 -2))", "1"}, {"(im (cpx 1 -2))", "-2"}, {"(cadd (cpx 1 2) (cpx 3 4))", "(cpx 4 6)"}, {"(cmul (cpx 1 2) (cpx 3 4))", "(cpx -5 10)"}, {"(cpx 8388608 -8388609)", "(cpx -8388608 8388607)"}, {"(cpx 0 0)", "(cpx 0 0)"},
		{"(/ (- (- 0 999999999999999999) 1) -1)", "1000000000000000000"}, {"(/ 1 0)", noDiv}, {"(% 1 0)", noDiv}, {"(/ 0 0)", noDiv}, {"(% 0 0)", noDiv},
		{"(* 999999999999999999 -9)", "-8999999999999999991"}, {"(* 999999999999999999 10)", "-8446744073709551626"},
	})
	checkProgram(t, "(def two (n) (case n (0 1) (_ (* 2 (two (- n 1)))))) (def main () (/ (two 63) -1))", fmt.Sprint(leastInt))
	checkProgram(t, "(def two (n) (case n (0 1) (_ (* 2 (two (- n 1)))))) (def main () (% (two 63) -1))", "0")
	checkProgram(t, "(def two (n) (case n (0 1) (_ (* 2 (two (- n 1)))))) (def main () (- (two 63) 1))", fmt.Sprint(greatestInt))
	checkProgram(t, "(def two (n) (case n (0 1) (_ (* 2 (two (- n 1)))))) (def main () (two 64))", "0")
}
