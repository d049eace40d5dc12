package flat_test

import (
	"strings"
	"testing"

	"reverie/api"
	"reverie/flat"
	"reverie/made"
	"reverie/plain"
	"reverie/words"
)

// most is how many words the tests' programs may take.
const most = 200000

// The errors' texts.
var (
	noDiv   = plain.ErrorText(api.ErrDiv)
	noMatch = plain.ErrorText(api.ErrMatch)
	loop    = plain.ErrorText(api.ErrLoop)
	long    = plain.ErrorText(api.ErrLong)
)

// parsed is a program that has types.
func parsed(t *testing.T, s string) api.Program {
	t.Helper()
	p, wrong := made.Read(s)
	if wrong != "" {
		t.Fatal(wrong)
	}
	return p
}

// checkFlat asks of what comes of a program all that the document promises, but for what the program means, and answers it.
func checkFlat(t *testing.T, p api.Program) api.Program {
	t.Helper()
	q, wrong := words.Again(p, flat.Program)
	for _, wrong := range []string{wrong, words.OtherHeads(p, q), names(p, q), shapes(q), sizes(p, q)} {
		if wrong != "" {
			t.Fatalf("%sbecame\n%s%s", made.Brief(p), made.Brief(q), wrong)
		}
	}
	return q
}

// check asks likewise, and that what comes of a program means what it meant, and takes no more words than it may; it answers the outcome, none, if the program takes too many words.
func check(t *testing.T, p api.Program, most int) string {
	t.Helper()
	q := checkFlat(t, p)
	want, w := plain.Run(p, most)
	if want == "" {
		return ""
	}
	bound := 8 * (w.Looked + w.Got) * (greatestCase(p) + 1)
	got, v := plain.Run(q, bound+w.Parts)
	if got != want || v.Looked+v.Got > bound {
		t.Fatalf("%sbecame\n%s%q in %d words, not %q in %d (from %d)", made.Brief(p), made.Brief(q), got, v.Looked+v.Got, want, bound, w.Looked+w.Got)
	}
	if got := words.Outcome(q, 40*v.Greatest()); got != want {
		t.Fatalf("%sbecame\n%s%q, by layer 9, not %q", made.Brief(p), made.Brief(q), got, want)
	}
	return want
}

// checkText asks for a program's outcome, too.
func checkText(t *testing.T, s, want string) {
	t.Helper()
	if got := check(t, parsed(t, s), most); got != want {
		t.Errorf("%s: %q, not %q", strings.TrimPrefix(s, made.Head), got, want)
	}
}

// checkMains asks for the outcomes of mains, with types and functions of all sorts.
func checkMains(t *testing.T, table [][2]string) {
	t.Helper()
	for _, row := range table {
		checkText(t, made.WithMain("", row[0]), row[1])
	}
}
