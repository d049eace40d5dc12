package fresh_test

import (
	"fmt"
	"testing"

	"reverie/made"
	"reverie/words"
)

// TestMadePrograms has programs of all kinds of parts, in each other, with few names for very many things.
func TestMadePrograms(t *testing.T) {
	t.Parallel()
	most := 0
	for i := range 3000 {
		checkAll(t, made.Wild(i, made.InTexts()))
		p := made.Wild(i, append(made.InTexts()[:4], made.InNoText()...))
		check(t, check(t, p))
		most = max(most, len(words.Bound(p)))
	}
	if most < 300 {
		t.Error("no program bound more than", most)
	}
}

// TestDefinitionsLikeNewNames has definitions with the names that were made when they had other ones.
func TestDefinitionsLikeNewNames(t *testing.T) {
	t.Parallel()
	p := named(t, made.Numbered(97, "(def f# () main) ")+"(def k (x y) (x (fn (x) (y (let ((x x) (z y)) (case x (x (x y z)) (z (z y x)))))))) (def x (x) x) (def main () (x (k main)))")
	for range 200 {
		q := check(t, p)
		list := words.Bound(q)
		for i := range list {
			p.Defs[i*7%97].Name = list[i]
		}
	}
	p = named(t, made.Numbered(97, "(def f# () main) ")+"(def k (x y) (x y (fn (x) (x y)))) (def main () k)")
	for i := range 200 {
		for j := range 97 {
			p.Defs[j].Name = fmt.Sprint([]string{"x.", "y."}[(i+j)%2], i+j)
		}
		check(t, p)
	}
}
