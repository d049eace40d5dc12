package scope

import (
	"strings"
	"testing"

	"reverie/api"
)

// checkPlace asks twice.
func checkPlace(t *testing.T, s string, want int, e api.Errno) {
	t.Helper()
	p := parsed(t, s)
	for range 2 {
		if pos, err := Check(p); pos != want || err != e {
			t.Errorf("%q: %d %d, not %d %d", s, pos, err, want, e)
			return
		}
	}
}

// marked is a text without its | and the place where that stood; -1: it has none.
func marked(s string) (string, int) {
	return strings.Replace(s, "|", "", 1), strings.Index(s, "|")
}

// base is what the texts below may use; it has no main.
const base = "(data P (a b) (P a b)) (data L (a) (N) (C a (L a))) (def f (x) x) (def g (x y) x) (def z () 0) "

// checkMarked asks of each text, to which main is added, that it is wrong at its mark: alone, with a program that is right ahead of it, and ahead of one.
func checkMarked(t *testing.T, with string, texts []string) {
	t.Helper()
	const other = "(data Other' (a) (Other' a (-> a Bool))) (def other' (x) (Other' x (fn (y) (= x y)))) "
	for _, m := range texts {
		s, at := marked(with + m)
		if at < 0 {
			t.Fatalf("%q has no mark", m)
		}
		checkPlace(t, s+" (def main () 1)", at, api.ErrScope)
		checkPlace(t, "(def main () 1)\n"+s, at+16, api.ErrScope)
		checkPlace(t, other+s+" (def main () 1)", at+len(other), api.ErrScope)
		checkPlace(t, s+"\n"+other+" (def main () 1)", at, api.ErrScope)
	}
}

func TestPlacesOfTypeNames(t *testing.T) {
	checkMarked(t, "", []string{
		"|(data Int () (C))", "|(data Bool () (C))", "|(data Cpx () (C))", "|(data Int (a) (C a))", "(data T () (C)) |(data Bool () (D))",
		"(data T () (C)) |(data T () (D))", "(data T () (C)) |(data T (a) (D a))", "(data T () (C)) |(data T () (D)) (data T () (E))",
		"(data T () (C)) (data U () (D)) |(data U () (E)) (data T () (F))", "(data T () (C)) (data U () (D)) |(data T () (E)) (data U () (F))",
		"(data T () (C)) (def f () 1) |(data T () (D))", "(data T () (C)) |(data Int () (E)) (data T () (D))", "(data T () (C)) |(data T () (D)) (data Int () (E))",
	})
}

func TestPlacesOfParametersOfTypes(t *testing.T) {
	checkMarked(t, "", []string{
		"|(data T (a a) (C))", "|(data T (a b a) (C a))", "|(data T (a b c d e f g a) (C))", "|(data T (a a a) (C b))", "|(data T (a b b) (C) (C))",
		"(data T (a b) (C)) |(data U (b a b) (D))", "(data T (a) (C)) |(data U (a a) (C))",
	})
}

func TestPlacesOfConstructorsOfTypes(t *testing.T) {
	checkMarked(t, "", []string{
		"(data T () (C) |(C))", "(data T () (C Int) |(C Int))", "(data T () (C) (D) |(C Int))", "(data T () (C) |(C) (C))", "(data T () (C) (D) |(D) (C))",
		"(data T () (C)) (data U () |(C))", "(data T () (C)) (data U () (D) |(C Int))", "(data T () (C)) (def f () C) (data U () (D) |(C))",
		"(data T () |(False))", "(data T () |(True))", "(data T () (C) |(True Int))", "(data T () (C) |(False a))", "(data T (a) |(False b))",
		"(data T () (C) |(C b))", "(data T () (C |b) (C))", "(data T () (C |b)) (data U () (C))",
	})
}

func TestPlacesOfFields(t *testing.T) {
	checkMarked(t, "", []string{
		"(data T () (C |a))", "(data T (a) (C a |b))", "(data T (a b) (C a b |c d))", "(data T (a) (C a) (D |b))", "(data T (a) (C a)) (data U () (D |a))", "(data T (a) (C |main))",
		"(data T () (C |U))", "(data T () (C Int |C))", "(data T () (C |True))", "(data T () (C |False))", "(data T () (C |(U Int)))", "(data T () (C |(U b V)))",
		"(data T (a) (C |T))", "(data T (a) (C a |T))", "(data T (a) (C |(T a a)))", "(data T (a) (C (T a)) (D |(T a b)))", "(data T () (C |(T Int)))", "(data T () (C |(T b)))",
		"(data T (a b) (C (T a b) |(T a)))", "(data T (a b c d e f g h) (C (T a b c d e f g h) |(T a b c d e f g)))",
		"(data T () (C |(Int Int)))", "(data T () (C |(Bool Int)))", "(data T () (C |(Cpx b)))", "(data T () (C Int Bool Cpx |Real))",
		"(data T (a) (C |U) (D b)) (data U (a) (E))", "(data T (a) (C (U a)) (D |(U a a))) (data U (b) (E b))",
		"(data T (a) (C (-> a |b)))", "(data T (a) (C (-> |b a)))", "(data T (a) (C (-> |b c)))", "(data T (a) (C (-> (-> a |T) b)))", "(data T (a) (C (-> a (-> a |U))))",
		"(data T (a) (C (T (T |b))))", "(data T (a) (C (T |(T b c))))", "(data T (a) (C |(T (T b) a)))", "(data T (a b) (C (T a (T |U b))))",
		"(data T (a b) (C (T (T a |c) d)))", "(data T (a b) (C (T (T a a) |d)))", "(data T (a) (C a (T (-> Int |(Int a)))))", "(data T (a) (C (T a) (T |b) U))",
	})
}

func TestPlacesOfDefinitions(t *testing.T) {
	checkMarked(t, "", []string{
		"(def f () 1) |(def f () 2)", "(def f () 1) |(def f (x) x)", "(def f () 1) |(def f () 2) (def f () 3)", "(def f () x) |(def f () y)",
		"(def f () 1) (def g () 2) |(def g () 1) (def f () 2)", "(def f () 1) (def g () 2) |(def f () 1) (def g () 2)", "(def f () 1) (data T () (C)) |(def f () 1)",
		"|(def f (x x) 1)", "|(def f (x y x) x)", "|(def f (x x x) x)", "|(def f (x x) z)", "|(def f (a b c d e f g a) 1)", "(def f (x) x) |(def g (y x y) x)", "(def f (x) |y) (def g (y y) 1)",
	})
	checkPlace(t, "(def main () 1) (def main () 2)", 16, api.ErrScope)
	checkPlace(t, "(def main (x) 1) (def main () 2)", 17, api.ErrScope)
	checkPlace(t, "(def main () 1) (def main (x) 2)", 16, api.ErrScope)
}

func TestPlacesOfMain(t *testing.T) {
	for s, want := range map[string]int{
		"": 0, " ": 0, " ; \n": 0, "(def f () 1)": 0, " (def f () 1)": 0, "\n (data T () (C))": 0, "(def main' () 1)": 0, "(data Main () (Main))": 0, "(def f (main) main)": 0,
		"(def f () (let ((main 1)) main))": 0, "(def main (x) x)": 0, " (def main (x) 1)": 1, "(def f () 1)\n(def main (x y) (f x)) (def g () 1)": 13, "(def f () (main 1)) (def main (x) f)": 20,
	} {
		checkPlace(t, s, want, api.ErrScope)
	}
}

// checkMarkedExprs asks of each expression that it is wrong at its mark: alone, and as a part of others.
func checkMarkedExprs(t *testing.T, texts []string) {
	t.Helper()
	contexts := []string{"@", "(f @)", "(+ 1 @)", "(re @)", "(P @ 1)", "(P 1 @)", "(fn (q) @)", "(let ((q @) (r q)) r)", "(let ((r q) (q @)) r)", "(let ((q z)) @)", "(case @ (q q))", "(case z (q @))", "(case z (1 2) ((P q r) @) (_ 1))"}
	var programs []string
	for _, m := range texts {
		for _, around := range contexts {
			programs = append(programs, "(def h () "+strings.Replace(around, "@", m, 1)+")")
		}
	}
	checkMarked(t, base, programs)
}

func TestPlacesOfNames(t *testing.T) {
	checkMarkedExprs(t, []string{
		"|x", "|y", "|a", "|nope", "|x'", "(|x 1)", "(f |x)", "(f z |x y)", "(+ |x 1)", "(+ z |x)", "(cpx |re' 1)", "(C |x N)", "(C 1 |x)", "(C f |x)",
		"(fn (x) |y)", "(fn (x y) (x |a))", "((fn (x) x) |x)", "(f (fn (x) x) |x)", "((fn (x) (fn (y) y)) |y)", "(fn (x) ((fn (y) y) |y))", "(fn (x) ((fn (x) x) x |y))",
		"(let ((x 1)) |y)", "(let ((x |y)) 1)", "(let ((x |y) (w x)) 1)", "(let ((x w) (w |y)) x)", "(f (let ((x 1)) x) |x)", "(let ((x (let ((w 1)) w))) |w)", "(let ((x (fn (w) w))) (x |w))",
		"(let ((x x) (y (x y))) (x y |w))", "(let ((w (fn (x) (w x)))) (w |x))",
		"(case |x (x x))", "(case |x (_ 1))", "(case 1 (x x) (_ |x))", "(case 1 (x |y) (y y))", "(case 1 (x x) (y |x))", "(case 1 ((P x y) (x |a)))", "(case 1 ((P x (P y w)) (x y w |a)))",
		"(case 1 (1 |x) (x x))", "(case 1 (_ |x))", "(case 1 (N |x))", "(f (case 1 (x x)) |x)", "(case (case 1 (x x)) (y |x))", "(case 1 (x (case x (y y) (w |y))))",
	})
	checkMarked(t, "", []string{
		"(def f (x) x) (def g () |x)", "(def f () |y) (def g (y) y)", "(def f (x y) (x y |w))", "(def f (x) (fn (x) x)) (def g (y) (y |x))", "(data T (a) (C a)) (def f () |a)", "(def f (x) ((fn (x) x) |g x))",
	})
}

func TestPlacesOfConstructors(t *testing.T) {
	checkMarkedExprs(t, []string{
		"|Nope", "|Int", "|L", "|(Nope 1)", "|(Nope x)", "|(Nope Nope)", "|(Int 1)", "|(L z)", "(f |Nope)", "(+ 1 |Nope)", "(C 1 |Nil)", "(C 1 (C 2 |(Nil x)))", "((fn (x) |X) 1)",
		"|P", "|C", "|(P 1)", "|(P 1 2 3)", "|(C 1)", "|(C N)", "|(C 1 N N)", "|(N 1)", "|(N x)", "|(True 1)", "|(False N)", "|(P x)", "|(P 1 2 3 4 5 6 7 8)",
		"(P |P P)", "(P N |C)", "(P (C 1 |(N N)) P)", "(C |(P 1) (N 1))", "(|(P 1) 2)", "(f |C N)", "(|(True 1) x)", "(f N |(C N) x)",
		"(case |C (N 1))", "(case N (N |C))", "(case N (x |(C x)))", "(let ((x |C)) x)", "(let ((x |(N 1))) y)", "(fn (x) |(P x))",
	})
}

func TestPlacesOfConstructorsInPatterns(t *testing.T) {
	var texts []string
	for _, m := range []string{
		"|Nope", "|Int", "|L", "|(Nope x)", "|(Int 1)", "|P", "|C", "|(P x)", "|(P _ _ _)", "|(C x)", "|(C x y w)", "|(N x)", "|(True _)", "|(False 1)", "|(Nope Nope)", "|(P Nope)", "|(P 1 2 3 4 5 6 7 8)",
		"(P |Nope x)", "(P x |Nope)", "(P x |(Nope y))", "(C 1 (C 2 |(N _)))", "(C (P |P N) P)", "(C x |C)", "(P True |(True _))", "(P _ |(P _))", "(P (C |C _) x)", "(P 1 (C x |(C y)))",
	} {
		texts = append(texts, "(case z ("+m+" 1))", "(case z ("+m+" nope))", "(case z (1 2) ("+m+" 1) (Nope nope))", "(case N (N z) (_ (case 1 ("+m+" 1))))")
	}
	checkMarkedExprs(t, texts)
}

func TestPlacesOfNamesTwice(t *testing.T) {
	checkMarkedExprs(t, []string{
		"|(fn (x x) 1)", "|(fn (x y x) x)", "|(fn (x x x) x)", "|(fn (a b c d e f g a) 1)", "|(fn (x x) nope)", "(fn (x) |(fn (y y) x))", "(f |(fn (f f) f))", "(|(fn (y x x) 1) nope)",
		"|(let ((x 1) (x 2)) 1)", "|(let ((x 1) (y 2) (x 3)) x)", "|(let ((x nope) (x 2)) 1)", "|(let ((x 1) (x nope)) 1)", "|(let ((x 1) (x 2)) nope)", "|(let ((x 1) (y 2) (y x)) nope)", "(let ((x |(let ((y 1) (y 2)) y))) x)", "(let ((x 1)) |(let ((y 1) (y 2)) y))",
		"|(let ((x x) (x x)) x)", "|(let ((a 1) (b 1) (c 1) (d 1) (e 1) (f 1) (g 1) (a 1)) a)",
		"(case 1 ((P x |x) 1))", "(case 1 ((P x |x) nope))", "(case 1 ((P (P x y) |x) 1))", "(case 1 ((P x (P y |x)) x))", "(case 1 ((P (P x |x) x) 1))", "(case 1 ((P (P x y) (P |y x)) 1))", "(case 1 ((P (P x y) (P |x y)) 1))", "(case 1 ((C x (C y (C |x N))) 1))",
		"(case 1 ((P x y) 1) ((P x |x) 1))", "(case 1 ((P x (P |x Nope)) 1))", "(case 1 ((P |(Nope x) x) 1))", "(case 1 ((P x (P |(Nope x) x)) 1))", "(case 1 ((P f |f) 1))", "(case 1 (|(P x x x) 1))", "(case 1 (x (case x ((P x |x) 1))))",
	})
}

func TestRightPrograms(t *testing.T) {
	for _, s := range []string{
		"(def main () 1)", "(def main () main)", "(def main () f) (def f () main)", "(def main () (let ((x x)) x))", "(def main () (let ((x y) (y x)) x))", base + "(def main () (f (g z z)))",
		"(def main () (f 1)) (def f (f) f)", "(def f (main) (main f)) (def main () f)", "(def main () (fn (main) main))", "(def main () (let ((main main)) main))", "(def main () (case main (main main)))",
		"(def main () (fn (x) (fn (x) x)))", "(def f (x) (fn (x) (let ((x x)) (case x (x x))))) (def main () f)", "(def f (x) (let ((x (fn (x) x))) (x x))) (def main () 1)", "(def main () (+ (let ((x 1)) x) (let ((x 2)) x)))",
		"(def main () (fn (x y) (let ((y x) (x y)) (case x (1 y) (y y) (x y) (_ x)))))", "(def main () (case 1 (x x) (x x)))", base + "(def main () (case (P 1 2) ((P x y) x) ((P y x) x)))", base + "(def main () (case 1 ((P _ _) 1) ((P 1 1) 2)))",
		"(data Main () (Main)) (def main () Main)", "(data T () (T)) (def main () T)", "(data True () (Int)) (def main () Int)", "(data False () (Bool True)) (data True () (Cpx False)) (def main () (Bool (Cpx (Bool 1))))",
		"(data T (t) (C t)) (data U (t) (D t)) (def t () 1) (def main () (C (D t)))", "(data T (a b) (C b a)) (def main () (C True False))", "(def main () True)", "(def main () (case True (True False) (False True)))",
		"(data T (a) (C (U a)) (D)) (data U (b) (E (T b))) (def main () (C (E D)))", "(data T (a) (C (T (T a)) (-> a (-> (T a) Int)) Bool Cpx a)) (def main () 1)", "(def main () C) (data T () (C))",
		"(data T (a b c d e f g h) (C a b c d e f g h)) (def main () (C 1 2 3 4 5 6 7 8))", "(def f (a b c d e f g h) (h g f e d c b a)) (def main () 1)", "(def main () (1 2))", "(def main () (re True))",
		"(data T () (C Int)) (def main () ((C 1) 2))", "(def main () 1) ; (def main () x)", "(data T (a) (C)) (def main () (case C (C 1) (C 2)))",
	} {
		checkPlace(t, s, -1, api.OK)
	}
}
