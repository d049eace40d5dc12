package sense_test

import (
	"fmt"
	"strings"
	"testing"

	"reverie/api"
	"reverie/made"
	"reverie/plain"
	"reverie/sense"
	"reverie/show"
)

// enough is more fuel than most programs may need that end by themselves; plenty, than the longest ones.
const (
	enough = 4000000
	plenty = 200000000
)

// parsed is a program that has types.
func parsed(t *testing.T, s string) api.Program {
	t.Helper()
	p, wrong := made.Read(s)
	if wrong != "" {
		t.Fatal(wrong)
	}
	return p
}

// withMain is a program of types and functions of all sorts, others, and main.
func withMain(others, main string) string { return made.WithMain(others, main) }

// madeProgram is one that was made; false, if its text is too long.
func madeProgram(t *testing.T, state, odd int) (api.Program, bool) {
	t.Helper()
	s := made.Text(state, made.Rule{Odd: odd, Alts: 3, Deep: 2})
	if len(s) > api.MaxSource {
		return api.Program{}, false
	}
	return parsed(t, s), true
}

// clean tells whether each part of a tree is a number, a point or a constructor, and has nothing that such a one has not.
func clean(tree api.Tree) bool {
	switch tree.Name {
	case "":
		return tree.Re == 0 && tree.Im == 0 && len(tree.Args) == 0
	case "cpx":
		return tree.Int == 0 && len(tree.Args) == 0
	}
	for _, a := range tree.Args {
		if !clean(a) {
			return false
		}
	}
	return tree.Int == 0 && tree.Re == 0 && tree.Im == 0
}

// answer is what Run answers, in a text: the tree's, or the error.
func answer(t *testing.T, p api.Program, fuel int) string {
	t.Helper()
	out := sense.Run(p, fuel)
	if out.Pos != -1 {
		t.Fatalf("%s: at %d", show.Program(p), out.Pos)
	}
	if out.Error == api.OK {
		if !clean(out.Tree) {
			t.Fatalf("%s: a tree with what no sentence names: %v", show.Program(p), out.Tree)
		}
		return show.Tree(out.Tree)
	}
	if out.Tree.Name != "" || out.Tree.Int != 0 || !clean(out.Tree) {
		t.Fatalf("%s: error %d, and a tree", show.Program(p), out.Error)
	}
	return wrong(out.Error)
}

// wrong is an error's text.
func wrong(e api.Errno) string { return plain.ErrorText(e) }

// The errors' texts.
var (
	noDiv   = wrong(api.ErrDiv)
	noMatch = wrong(api.ErrMatch)
	loop    = wrong(api.ErrLoop)
	long    = wrong(api.ErrLong)
	noFuel  = wrong(api.ErrFuel)
)

// checkProgram asks for a program's outcome, as a text.
func checkProgram(t *testing.T, s, want string) {
	t.Helper()
	checkWith(t, s, want, enough)
}

// checkWith asks for a program's outcome with some fuel.
func checkWith(t *testing.T, s, want string, fuel int) {
	t.Helper()
	if got := answer(t, parsed(t, s), fuel); got != want {
		t.Errorf("%s: %s with %d of fuel, not %s", strings.TrimPrefix(s, made.Head), brief(got), fuel, brief(want))
	}
}

// checkMain asks for the outcome of main, with the types and functions above.
func checkMain(t *testing.T, main, want string) {
	t.Helper()
	checkProgram(t, withMain("", main), want)
}

func checkMains(t *testing.T, table [][2]string) {
	t.Helper()
	for _, row := range table {
		checkMain(t, row[0], row[1])
	}
}

// brief is a text, or how it begins.
func brief(s string) string {
	if len(s) > 200 {
		return s[:200] + ".."
	}
	return s
}

// replaced is a text with numbers for words in it.
func replaced(s string, pairs ...any) string {
	for i := 0; i < len(pairs); i += 2 {
		s = strings.ReplaceAll(s, pairs[i].(string), fmt.Sprint(pairs[i+1]))
	}
	return s
}
