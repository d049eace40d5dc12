package anf_test

import (
	"testing"

	"reverie/anf"
	"reverie/api"
	"reverie/flat"
	"reverie/fresh"
	"reverie/made"
	"reverie/plain"
	"reverie/show"
	"reverie/words"
)

// The errors' texts.
var (
	noDiv   = plain.ErrorText(api.ErrDiv)
	noMatch = plain.ErrorText(api.ErrMatch)
	loop    = plain.ErrorText(api.ErrLoop)
	long    = plain.ErrorText(api.ErrLong)
	noFuel  = plain.ErrorText(api.ErrFuel)
)

// head has constructors of all sorts, and definitions without bound names.
const head = "(data T () (A) (B T) (C T T) (E T T T T T T T T)) (def g () A) (def h () g) (def main () g) "

// named is a program whose names hold, and that needn't have types.
func named(t *testing.T, s string) api.Program {
	t.Helper()
	p, wrong := made.Named(s)
	if wrong != "" {
		t.Fatal(wrong)
	}
	return p
}

// typed is a program that has types.
func typed(t *testing.T, s string) api.Program {
	t.Helper()
	p, wrong := made.Read(s)
	if wrong != "" {
		t.Fatal(wrong)
	}
	return p
}

// fail tells what is wrong in what came of a program.
func fail(t *testing.T, p, q api.Program, wrong string) {
	t.Helper()
	t.Fatalf("%sbecame\n%s%s", made.Brief(p), made.Brief(q), wrong)
}

// check asks of what Program makes all that the document promises, but for what it means, and answers it.
func check(t *testing.T, p api.Program) api.Program {
	t.Helper()
	q, wrong := words.Again(p, anf.Program)
	for _, wrong := range []string{wrong, words.OtherHeads(p, q), words.NoNames(q), letsAround(p, q), stays(p, q)} {
		if wrong != "" {
			fail(t, p, q, wrong)
		}
	}
	if again := anf.Program(q); !made.Equal(again, q) {
		fail(t, q, again, "though its arguments have names")
	}
	return q
}

// checkTrim asks of what Trim makes all that the document promises, but for what it means, and answers it.
func checkTrim(t *testing.T, p api.Program) api.Program {
	t.Helper()
	if wrong := words.Twice(p); wrong != "" {
		t.Fatal(show.Program(p), wrong)
	}
	q, wrong := words.Again(p, anf.Trim)
	for _, wrong := range []string{wrong, words.OtherHeads(p, q), others(q), stays(p, q)} {
		if wrong != "" {
			fail(t, p, q, wrong)
		}
	}
	if want := trimmed(p, q); !made.Equal(q, want) {
		fail(t, p, q, "not\n"+made.Brief(want))
	}
	if wrong := words.NoNames(q); wrong != "" && words.NoNames(p) == "" {
		fail(t, p, q, wrong)
	}
	return q
}

// stays asks that names hold that held, that what was flat is flat, and that of a program in which no name is bound twice comes such a one.
func stays(p, q api.Program) string {
	if wrong := words.Twice(q); wrong != "" && words.Twice(p) == "" {
		return wrong
	}
	return words.NotKept(p, q)
}

// checkAll asks all of both of a program whose names hold, of what layers 10 and 11 make of it, and of what comes of these.
func checkAll(t *testing.T, p api.Program) {
	t.Helper()
	for _, p := range []api.Program{p, flat.Program(p)} {
		checkTurns(t, check(t, p))
		checkTurns(t, p)
	}
}

// checkTurns has layers 11 and 12 make programs in turn.
func checkTurns(t *testing.T, p api.Program) {
	t.Helper()
	p = fresh.Program(p)
	q := check(t, checkTrim(t, p))
	checkTrim(t, q)
	check(t, fresh.Program(checkTrim(t, check(t, p))))
}

// checkSteps asks that a program that was made of another one has its outcome, in at most so many times as many steps and words; it answers the outcome, none, if there are more words than most.
func checkSteps(t *testing.T, p, q api.Program, times, most int) string {
	t.Helper()
	outcome, wrong := words.Steps(p, q, times, most)
	if wrong != "" {
		fail(t, p, q, wrong)
	}
	return outcome
}

// checkMeant asks all of both of a program that has types, of what layers 10 and 11 make of it, and of what comes of these, and what it means; it answers the outcome, none, if there are more words than most.
func checkMeant(t *testing.T, p api.Program, most int) string {
	t.Helper()
	for _, p := range []api.Program{p, flat.Program(p)} {
		q := check(t, p)
		checkSteps(t, p, q, 4, most)
		for _, p := range []api.Program{fresh.Program(p), fresh.Program(q)} {
			q := checkTrim(t, p)
			checkSteps(t, p, q, 1, most)
			p, q = q, check(t, q)
			checkSteps(t, p, q, 4, most)
			checkSteps(t, q, checkTrim(t, q), 1, most)
		}
	}
	return checkSteps(t, p, check(t, p), 4, most)
}

// checkMains asks for the outcomes of mains, with types and functions of all sorts, and other definitions.
func checkMains(t *testing.T, table [][3]string) {
	t.Helper()
	for _, row := range table {
		if got := checkMeant(t, typed(t, made.WithMain(row[0], row[1])), 50000); got != row[2] {
			t.Errorf("%s %s: %q, not %q", row[0], row[1], got, row[2])
		}
	}
}
