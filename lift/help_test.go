package lift_test

import (
	"testing"

	"reverie/anf"
	"reverie/api"
	"reverie/flat"
	"reverie/fresh"
	"reverie/lift"
	"reverie/made"
	"reverie/plain"
	"reverie/words"
)

// The errors' texts.
var (
	noDiv   = plain.ErrorText(api.ErrDiv)
	noMatch = plain.ErrorText(api.ErrMatch)
	loop    = plain.ErrorText(api.ErrLoop)
	long    = plain.ErrorText(api.ErrLong)
	noFuel  = plain.ErrorText(api.ErrFuel)
)

// head has constructors of all sorts, and definitions without functions.
const head = "(data T () (A) (B T) (C T T) (E T T T T T T T T)) (def g () A) (def h () g) (def main () g) "

// named is a program whose names hold, and that needn't have types.
func named(t *testing.T, s string) api.Program {
	t.Helper()
	p, wrong := made.Named(s)
	if wrong != "" {
		t.Fatal(wrong)
	}
	return p
}

// typed is a program that has types.
func typed(t *testing.T, s string) api.Program {
	t.Helper()
	p, wrong := made.Read(s)
	if wrong != "" {
		t.Fatal(wrong)
	}
	return p
}

// fail tells what is wrong in what came of a program.
func fail(t *testing.T, p, q api.Program, wrong string) {
	t.Helper()
	t.Fatalf("%sbecame\n%s%s", made.Brief(p), made.Brief(q), wrong)
}

// check asks of what comes of a program all that the document promises, but for what it means, and answers it.
func check(t *testing.T, p api.Program) api.Program {
	t.Helper()
	q, wrong := words.Again(p, lift.Program)
	for _, wrong := range []string{wrong, lifted(p, q), words.NotKept(p, q)} {
		if wrong != "" {
			fail(t, p, q, wrong)
		}
	}
	if wrong := words.NoNames(q); wrong != "" && words.NoNames(p) == "" {
		fail(t, p, q, wrong)
	}
	if again := lift.Program(q); !made.Equal(again, q) {
		fail(t, q, again, "though it has no functions")
	}
	return q
}

// turns are a program, and what layers 10 to 12 make of it, in turn, each of what comes of the one ahead of it.
func turns(p api.Program) []api.Program {
	list := []api.Program{p}
	for _, call := range []words.Call{flat.Program, fresh.Program, anf.Trim, anf.Program} {
		p = call(p)
		list = append(list, p)
	}
	return list
}

// checkAll asks all of a program whose names hold, of what layers 10 to 12 make of it, and of what these and this layer make in turn.
func checkAll(t *testing.T, p api.Program) {
	t.Helper()
	check(t, fresh.Program(p))
	check(t, anf.Program(p))
	for _, p := range turns(p) {
		q := anf.Program(fresh.Program(check(t, p)))
		check(t, more(q, p))
		check(t, q)
	}
}

// more is a program with another one's definitions, that have names of their own, and with new names of its own in these.
func more(q, p api.Program) api.Program {
	p = made.Copied(p)
	for i, d := range p.Defs {
		p.Defs[i].Name += "'"
		if last := len(q.Defs) - 1; i <= last {
			p.Defs[i].Body = api.Expr{Kind: api.AppE, Args: []api.Expr{{Kind: api.VarE, Name: q.Defs[last-i].Name}, d.Body}}
		}
	}
	return api.Program{Datas: q.Datas, Defs: append(q.Defs[:len(q.Defs):len(q.Defs)], p.Defs...)}
}

// checkSteps asks that what comes of a program has its outcome, in no more steps and words than it may; it answers the outcome, none, if there are more words than most.
func checkSteps(t *testing.T, p api.Program, most int) string {
	t.Helper()
	q := check(t, p)
	k := 0
	for _, d := range q.Defs {
		k = max(k, len(d.Params))
	}
	outcome, wrong := words.Steps(p, q, 4+k, most)
	if wrong != "" {
		fail(t, p, q, wrong)
	}
	return outcome
}

// checkMeant asks what a program means that has types, once no name is bound twice, what layers 10 to 12 make of it, and what these make of what comes; it answers the outcome, none, if there are more words than most.
func checkMeant(t *testing.T, p api.Program, most int) (outcome string) {
	t.Helper()
	p = fresh.Program(p)
	outcome = checkSteps(t, p, most)
	list := turns(p)
	for _, p := range list[2:] {
		checkSteps(t, p, 4*most)
	}
	q := lift.Program(p)
	for i, p := range turns(q) {
		if !made.Equal(lift.Program(p), p) {
			t.Fatal("without functions, a program didn't stay as turn", i, "made it")
		}
	}
	return outcome
}

// checkMains asks for the outcomes of mains, with types and functions of all sorts, and other definitions.
func checkMains(t *testing.T, table [][3]string) {
	t.Helper()
	for _, row := range table {
		if got := checkMeant(t, typed(t, made.WithMain(row[0], row[1])), 50000); got != row[2] {
			t.Errorf("%s %s: %q, not %q", row[0], row[1], got, row[2])
		}
	}
}
