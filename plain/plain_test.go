package plain_test

import (
	"testing"

	"reverie/api"
	"reverie/parse"
	"reverie/plain"
)

const head = "(data P (a b) (P a b)) (def id (x) x) (def k (x y) x) (def main () "

// TestWords has programs whose words are counted by hand.
func TestWords(t *testing.T) {
	for _, c := range []struct {
		main, want string
		w          plain.Words
	}{
		{"7", "7", plain.Words{Looked: 1, Parts: 1, Others: 1}}, {"(+ 1 2)", "3", plain.Words{Looked: 3, Parts: 1, Others: 1}}, {"(/ 1 0)", "error 6", plain.Words{Looked: 3, Others: 1}}, {"(cpx 1 -9000000)", "(cpx 1 7777216)", plain.Words{Looked: 3, Parts: 1, Others: 1}},
		{"(P 1 (P 2 3))", "(P 1 (P 2 3))", plain.Words{Looked: 5, Parts: 5, Others: 1}}, {"(id 1)", "1", plain.Words{Looked: 4, Got: 1, Gave: 1, Parts: 1, Others: 2}}, {"(k id 1 2)", "2", plain.Words{Looked: 6, Got: 2, Gave: 3, Parts: 1, Others: 3}}, {"((fn (x) (+ x x)) (+ 1 2))", "6", plain.Words{Looked: 8, Got: 1, Gave: 1, Parts: 1, Others: 1}},
		{"(let ((x (+ 1 2))) (+ x x))", "6", plain.Words{Looked: 7, Parts: 1, Others: 1}}, {"(let ((x x)) x)", "error 8", plain.Words{Looked: 3, Others: 1}}, {"(case 1 (2 3) (x x))", "1", plain.Words{Looked: 3, Parts: 1, Others: 1}}, {"(case (/ 1 0) (_ 2))", "2", plain.Words{Looked: 2, Parts: 1, Others: 1}}, {"(case 1 (2 3))", "error 7", plain.Words{Looked: 2, Others: 1}},
		{"(case (P 1 (/ 1 0)) ((P 2 3) 4) ((P 1 _) 5) (_ 6))", "5", plain.Words{Looked: 4, Parts: 1, Others: 1}},
	} {
		p, _, e := parse.Program([]byte(head + c.main + ")"))
		if e != api.OK {
			t.Fatal(c.main, e)
		}
		if got, w := plain.Run(p, 1000); got != c.want || w != c.w {
			t.Errorf("%s: %s %+v, not %s %+v", c.main, got, w, c.want, c.w)
		}
		if got, _ := plain.Run(p, c.w.Least()-1); got != "" {
			t.Errorf("%s: %s in too few words", c.main, got)
		}
	}
}
