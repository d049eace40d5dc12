package fresh_test

import (
	"reflect"
	"testing"

	"reverie/api"
	"reverie/flat"
	"reverie/fresh"
	"reverie/infer"
	"reverie/made"
	"reverie/plain"
	"reverie/scope"
	"reverie/sense"
	"reverie/show"
	"reverie/words"
)

// The errors' texts.
var (
	noDiv   = plain.ErrorText(api.ErrDiv)
	noMatch = plain.ErrorText(api.ErrMatch)
	loop    = plain.ErrorText(api.ErrLoop)
	long    = plain.ErrorText(api.ErrLong)
)

// named is a program whose names hold, and that needn't have types.
func named(t *testing.T, s string) api.Program {
	t.Helper()
	p, wrong := made.Named(s)
	if wrong != "" {
		t.Fatal(wrong)
	}
	return p
}

// typed is a program that has types.
func typed(t *testing.T, s string) api.Program {
	t.Helper()
	p, wrong := made.Read(s)
	if wrong != "" {
		t.Fatal(wrong)
	}
	return p
}

// check asks of what comes of a program, whose names hold, all that the document promises, but for what the program means, and answers it.
func check(t *testing.T, p api.Program) api.Program {
	t.Helper()
	if pos, e := scope.Check(p); e != api.OK {
		t.Fatalf("%shas names that don't hold: %d", show.Program(p), pos)
	}
	q, wrong := words.Again(p, fresh.Program)
	for _, wrong := range []string{wrong, words.Twice(q), same(p, q)} {
		if wrong != "" {
			t.Fatalf("%sbecame\n%s%s", made.Brief(p), made.Brief(q), wrong)
		}
	}
	if pos, e := scope.Check(q); e != api.OK {
		t.Fatalf("%sbecame\n%sin which a name doesn't hold, or is there twice: %d", made.Brief(p), made.Brief(q), pos)
	}
	return q
}

// checkAll asks likewise of a program, of what layer 10 makes of it, and of what came of these.
func checkAll(t *testing.T, p api.Program) {
	t.Helper()
	check(t, check(t, p))
	check(t, check(t, flat.Program(p)))
}

// checkMeant asks likewise, and that what comes of a program has the same outcome, in as many steps, and by as many of layer 9's words; it answers the outcome, none, if there are more words than most.
func checkMeant(t *testing.T, p api.Program, most int) string {
	t.Helper()
	q := check(t, p)
	want, w := plain.Run(p, most)
	if got, v := plain.Run(q, most); got != want || v != w {
		t.Fatalf("%sbecame\n%s%q by %v, not %q by %v", made.Brief(p), made.Brief(q), got, v, want, w)
	}
	fuels := []int{-1, 0, 1, 2, 10, 100, 1000, 5000}
	if want != "" {
		need := words.LeastFuel(p, 40*w.Greatest())
		fuels = append(fuels, need/2, need-1, need, need+1, 2*need, 40*w.Greatest())
	}
	for _, fuel := range fuels {
		if got, want := sense.Run(q, fuel), sense.Run(p, fuel); !reflect.DeepEqual(got, want) {
			t.Fatalf("%sbecame\n%sand with %d of fuel %v, not %v", made.Brief(p), made.Brief(q), fuel, got, want)
		}
	}
	return want
}

// checkTyped asks likewise of a program that has types, and of what layer 10 makes of it; and that the types stay.
func checkTyped(t *testing.T, p api.Program, most int) string {
	t.Helper()
	checkMeant(t, flat.Program(p), 4*most)
	want, _, _ := infer.Types(p)
	if types, pos, e := infer.Types(fresh.Program(p)); e != api.OK || !reflect.DeepEqual(types, want) {
		t.Fatalf("%shas other types then: %v, not %v (error %d at %d)", made.Brief(p), types, want, e, pos)
	}
	return checkMeant(t, p, most)
}

// checkMains asks for the outcomes of mains, with types and functions of all sorts, and other definitions.
func checkMains(t *testing.T, table [][3]string) {
	t.Helper()
	for _, row := range table {
		if got := checkTyped(t, typed(t, made.WithMain(row[0], row[1])), 50000); got != row[2] {
			t.Errorf("%s %s: %q, not %q", row[0], row[1], got, row[2])
		}
	}
}
