package parse

import (
	"strings"
	"testing"

	"reverie/api"
)

// marked is a text without its | and the place where that stood.
func marked(t *testing.T, s string) (string, int) {
	t.Helper()
	before, after, ok := strings.Cut(s, "|")
	if !ok {
		t.Fatalf("%q has no mark", s)
	}
	return before + after, len(before)
}

// checkMarked asks of each expression that it is wrong at its mark: alone, and as a part of others.
func checkMarked(t *testing.T, texts []string) {
	t.Helper()
	for _, m := range texts {
		s, at := marked(t, m)
		checkWrongExpr(t, s, at, api.ErrParse)
		checkWrongExpr(t, " "+s+" ", at+1, api.ErrParse)
		contexts := []string{"(f | _)", "(C x | _)", "(+ 1 |)", "(fn (x) |)", "(let ((x |) 1) _)", "(let ((x 1)) |)", "(case | 1)", "(case 1 (x |) y)"}
		if strings.HasPrefix(s, "(") { // a token at a list's beginning may tell what the list is
			contexts = append(contexts, "(| _)")
		}
		for _, around := range contexts {
			before, after, _ := strings.Cut(around, "|")
			checkWrongExpr(t, before+s+after, len(before)+at, api.ErrParse)
		}
		const before = "(data T () (C)) (def f (x) "
		checkWrongProgram(t, before+s+") (def _ () 1) (", len(before)+at, api.ErrParse)
	}
}

func checkMarkedPrograms(t *testing.T, texts []string) {
	t.Helper()
	for _, m := range texts {
		s, at := marked(t, m)
		checkWrongProgram(t, s, at, api.ErrParse)
		const before = "(def f () 1) ;\n "
		checkWrongProgram(t, before+s, len(before)+at, api.ErrParse)
	}
}

func TestPlacesOfNodes(t *testing.T) {
	for _, m := range []string{"(|", "(f|", "(f |", "(f x ; )|", "((f x)|", "|)", " |) (", "|) x", "(f (fn)|", "(_|", "(()|", "(+ 1 (2 3) ;\n|"} {
		s, at := marked(t, m)
		checkWrongExpr(t, s, at, api.ErrParse)
		checkWrongProgram(t, s, at, api.ErrParse)
	}
}

// TestPlacesOfDeepLists marks where the first list stands that is too deep, or else what is wrong.
func TestPlacesOfDeepLists(t *testing.T) {
	deep := strings.Repeat("(f ", api.MaxNest)
	shut := strings.Repeat(")", api.MaxNest)
	for _, m := range []string{
		deep + "|(", deep + "|()", deep + "|(x)" + shut, deep + "|(f (f x))" + shut, deep + "|() )" + shut + ") (",
		deep + "|", deep + "x|", deep + "x)|", deep + "x) (y|", deep + "x) y|", "(f _ (g _)) |" + deep,
		"(+ _ " + deep[3:] + "x |(y))", "(_ _ " + deep[3:] + "x" + shut[1:] + "|", "(f |_ " + deep[3:] + "x" + shut,
	} {
		s, at := marked(t, m)
		checkWrongExpr(t, s, at, api.ErrParse)
	}
	for _, m := range []string{
		"(def f () " + deep[3:] + "x |(y))" + shut, "(def 1 _ " + deep[3:] + "|()" + shut, "(def |1 _ " + deep[3:] + "x" + shut, deep + "|()" + shut,
		"(def f () |_) " + deep + "(", "|" + deep + "x" + shut, "(data T () (C " + deep[6:] + "|()" + shut, "|(x) " + deep + "()",
	} {
		s, at := marked(t, m)
		checkWrongProgram(t, s, at, api.ErrParse)
	}
}

func TestPlacesBehindAnExpression(t *testing.T) {
	for _, m := range []string{"x |y", "1 |2", "x |)", "x |(", "(f x) |)", "(f x) ;\n|(y", "(f _) |x", "(fn (1) 2) |x y", "(f) |x", "() |x", "_ |x", "+ |1 2", "(f _)|(f _)"} {
		s, at := marked(t, m)
		checkWrongExpr(t, s, at, api.ErrParse)
	}
}

func TestPlacesOfExpressions(t *testing.T) {
	checkMarked(t, []string{
		"|_", "|->", "|+", "|-", "|=", "|data", "|def", "|fn", "|let", "|case", "|re", "|cpx",
		"|()", "|(f)", "|(1)", "|(C)", "|(_)", "|(+)", "|(re)", "|((f x))", "|(())", "|(data)", "|(->)",
		"(|_ 1)", "(|-> a b)", "(|data T () (C))", "(|def f () 1)", "(|data 1 2 3 4 5 6 7 8)", "(|() 1)", "((|_ 1) 1)",
		"(f |_)", "(f x |+)", "(f |cpx)", "(f |fn (x) 1)", "(f |() _)", "(f x |(1) +)", "(C 1 |_ ->)", "(C (f |_) _)",
		"(f 1 2 3 4 5 6 7 8 |9)", "(C 1 2 3 4 5 6 7 8 |9 10)", "(_ 1 2 3 4 5 6 7 8 |9)", "(f _ 2 3 4 5 6 7 8 |()())",
		"|(+ 1)", "(+ 1 2 |3)", "(+ 1 2 |3 4)", "(+ _ 2 |3)", "|(+ _)", "(+ 1 2 |3 4 5 6 7 8)",
		"(+ 1 2 3 4 5 6 7 8 |9)", "(+ 1 2 3 4 5 6 7 8 |9 10)", "(re 1 |2)", "(re _ |2)", "(im 1 2 3 4 5 6 7 8 |9)",
		"|(cpx 1)", "(cmul 1 2 |3)", "(< |_ _)", "(< 1 |_)", "(% 1 |->)", "(/ 1 |%)",
	})
}

func TestPlacesOfFunctions(t *testing.T) {
	checkMarked(t, []string{
		"|(fn)", "|(fn (x))", "|(fn _)", "(fn (x) x |y)", "(fn 1 _ |y z)", "(fn |x x)", "(fn |1 _)", "(fn |X _)", "(fn |() x)", "(fn |() _)",
		"(fn (|1) x)", "(fn (|X) x)", "(fn (|_) x)", "(fn (x |(y)) x)", "(fn (x |()) _)", "(fn (x |fn) _)", "(fn (x |re y) _)",
		"(fn (x |data) _)", "(fn (|def) _)", "(fn (a |let) _)", "(fn (|case) _)", "(fn (|-> a b) x)",
		"(fn (a b c d e f g h |i) x)", "(fn (a b c d e f g h |i j) x)", "(fn (1 b c d e f g h |i) _)", "(fn (x y) |_)", "(fn (x) (f |_))",
	})
}

func TestPlacesOfLets(t *testing.T) {
	checkMarked(t, []string{
		"|(let)", "|(let ((x 1)))", "|(let x)", "(let ((x 1)) x |y)", "(let _ _ |y z)", "(let |x 1)", "(let |1 _)", "(let |() 1)", "(let |() _)",
		"(let (|x) 1)", "(let (|x 1) 1)", "(let ((x 1) |y) 1)", "(let (|()) 1)", "(let (|(x)) _)", "(let (|(_)) _)", "(let ((x 1 |2)) 1)", "(let ((_ _ |2)) 1)",
		"(let ((|1 2)) 3)", "(let ((|X _)) _)", "(let ((|_ 1)) 1)", "(let ((|(x) 1)) 1)", "(let ((|let 1)) 1)", "(let ((|im 1)) 1)",
		"(let ((x |_)) _)", "(let ((x |_) y) _)", "(let ((x 1) (y |_)) _)", "(let ((x 1) |(y)) _)", "(let ((x |(f)) (_ 1)) _)", "(let ((x 1)) |_)", "(let ((x 1) (|2 1)) _)",
	})
}

func TestPlacesOfCases(t *testing.T) {
	checkMarked(t, []string{
		"|(case)", "|(case x)", "|(case _)", "(case |_ (x 1))", "(case |_ x)", "(case |() ())", "(case x |y)", "(case x |_)", "(case x |())",
		"(case x |(1))", "(case x |(_))", "(case x |((_ 1)))", "(case x (1 2 |3))", "(case x (+ _ |3 4))", "(case x (1 2) |y)", "(case x (1 |_) y)", "(case x (1 2) (_ 3) |(4))",
	})
}

func TestPlacesOfPatterns(t *testing.T) {
	var texts []string
	for _, m := range []string{
		"|+", "|->", "|fn", "|cpx", "|case", "|()", "|(C)", "|(x)", "|(_)", "(|x 1)", "(|1 2)", "(|_ 1)", "(|(C 1) 1)", "(|() 1)", "(|fn (x))", "(|fn (x) x)", "(|+ 1 2)", "(|case x (y z))",
		"(C |+)", "(C |())", "(C x |(D))", "(C |(D) +)", "(C (D |-> x) +)", "(C 1 2 3 4 5 6 7 8 |9)", "(c + 2 3 4 5 6 7 8 |9 10)", "(C _ |re)", "(C _ x 1 D (E _ |let))",
	} {
		texts = append(texts, "(case x ("+m+" _))", "(case x (1 2) ("+m+" 1) y)")
	}
	checkMarked(t, texts)
}

func TestPlacesOfPrograms(t *testing.T) {
	checkMarkedPrograms(t, []string{
		"|x", "|1", "|def", "|data x", "|()", "|(f)", "|(Def f () 1)", "|(1 2 3)", "|(fn (x) x)", "|((def) f () 1)", "|((def f () 1))", "|(let ((x 1)) x)", "|(+ 1 2)", "|)",
		"|(f) (", "(def f () 1) |)", "(def f () 1) |x (", "(def f () 1) |(f) (", "(def f () 1) |(f) )", "(f (|", "(def f () 1) (f (|",
		"(def f () 1|", "(def f () _|", "(def f () 1) (def|", "(def f () |_) )", "(def f () |_) (", "(def f () |_) (def",
	})
}

func TestPlacesOfDefinitions(t *testing.T) {
	checkMarkedPrograms(t, []string{
		"|(def)", "|(def f)", "|(def f ())", "|(def 1 2)", "(def f () 1 |2)", "(def 1 2 _ |3 4)",
		"(def |1 2 3)", "(def |F () 1)", "(def |_ _ _)", "(def |(f) () 1)", "(def |() () 1)", "(def |def () 1)", "(def |data () 1)", "(def |fn () 1)", "(def |cadd () 1)",
		"(def f |x _)", "(def f |1 _)", "(def f |_ _)", "(def f (|1) _)", "(def f (x |X) _)", "(def f (x |(y)) _)", "(def f (x |()) _)", "(def f (|case) _)", "(def f (x y |im) _)",
		"(def f (a b c d e f g h |i) _)", "(def f (a b c d e f g h |i j) 1)", "(def f (1 b c d e f g h |i) 1)", "(def f (a b c d e f g |1) _)", "(def |1 (a b c d e f g h i) 1)",
		"(def f () |_)", "(def f (x y) |())", "(def f (x) (f |_))",
	})
}

func TestPlacesOfTypes(t *testing.T) {
	texts := []string{
		"|(data)", "|(data T)", "|(data T ())", "|(data 1 2)", "(data |t () (C))", "(data |1 2 3)", "(data |_ () (C))", "(data |(T) () (C))", "(data |() 1 2)", "(data |data () (C))",
		"(data T |a (C))", "(data T |1 2)", "(data T |C 1)", "(data T (|1) 1)", "(data T (a |A) 1)", "(data T (a |(b)) 1)", "(data T (|data) 1)", "(data T (a |re) 1)", "(data T (a |()) (C))",
		"(data T (a b c d e f g h |i) 1)", "(data T (1 b c d e f g h |i j) 1)", "(data |t (a b c d e f g h i) 1)", "(data T (a b c d e f g |+) (C))",
		"(data T () |C)", "(data T () |_)", "(data T () |())", "(data T () (|c))", "(data T () (|1 2))", "(data T () (|(C)))", "(data T () (|() a))", "(data T () (C) |D)", "(data T () (C) |())", "(data T () (C) (|d))",
		"(data T () (C 1 2 3 4 5 6 7 8 |9))", "(data T () (c a a a a a a a a |a a) D)", "(data T () (C |1) D)", "(data T () (C |_) ())", "(data T () (C a (|1 a)) D)",
	}
	for _, m := range []string{
		"|1", "|_", "|->", "|+", "|fn", "|data", "|cpx", "|()", "|(T)", "|(->)", "|(a)", "|(-> a)", "|(-> 1)", "(-> a b |c)", "(-> 1 b |c d)", "(-> |1 2)", "(-> a |2)", "(-> a (-> |_ 1))",
		"(-> a b c d e f g h |i)", "(-> a b c d e f g h |i j)", "(|a b)", "(|1 a)", "(|_ a)", "(|(T a) a)", "(|() a)", "(|fn a)", "(|data T () (C))", "(|+ a a)",
		"(T |1)", "(T a |_)", "(T |(U) 1)", "(T (U |cmul) 1)", "(T 1 2 3 4 5 6 7 8 |9)", "(1 1 2 3 4 5 6 7 8 |9 10)",
	} {
		texts = append(texts, "(data T () (C "+m+") 1)", "(data T (a) (A) (C b "+m+" 1))")
	}
	checkMarkedPrograms(t, texts)
}
