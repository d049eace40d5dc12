package flat_test

import (
	"reflect"
	"slices"
	"strings"
	"testing"

	"reverie/api"
	"reverie/flat"
	"reverie/made"
	"reverie/plain"
	"reverie/sense"
	"reverie/show"
)

// most is how many words the tests' programs may take.
const most = 200000

// The errors' texts.
var (
	noDiv   = plain.ErrorText(api.ErrDiv)
	noMatch = plain.ErrorText(api.ErrMatch)
	loop    = plain.ErrorText(api.ErrLoop)
	long    = plain.ErrorText(api.ErrLong)
)

// parsed is a program that has types.
func parsed(t *testing.T, s string) api.Program {
	t.Helper()
	p, wrong := made.Read(s)
	if wrong != "" {
		t.Fatal(wrong)
	}
	return p
}

// brief is a program's text without the types and functions that all of them have.
func brief(p api.Program) string {
	s := show.Program(p)
	if i := strings.Index(s, "(def nat "); i >= 0 {
		s = s[i+strings.Index(s[i:], "\n")+1:]
	}
	return s
}

// checkFlat asks of what comes of a program all that the document promises, but for what the program means, and answers it.
func checkFlat(t *testing.T, p api.Program) api.Program {
	t.Helper()
	was := copied(p)
	q := flat.Program(p)
	if again := flat.Program(p); !reflect.DeepEqual(again, q) {
		t.Fatalf("%sbecame\n%sand then\n%s", brief(p), brief(q), brief(again))
	}
	if !reflect.DeepEqual(p, was) {
		t.Fatalf("%swas changed by the call", brief(p))
	}
	for _, wrong := range []string{heads(p, q), names(p, q), shapes(q), sizes(p, q)} {
		if wrong != "" {
			t.Fatalf("%sbecame\n%s%s", brief(p), brief(q), wrong)
		}
	}
	return q
}

// copied is a program in memory of its own.
func copied(p api.Program) api.Program {
	p.Datas, p.Defs = slices.Clone(p.Datas), slices.Clone(p.Defs)
	for i := range p.Datas {
		d := &p.Datas[i]
		d.Params, d.Cons = slices.Clone(d.Params), slices.Clone(d.Cons)
		for j := range d.Cons {
			d.Cons[j].Fields = slices.Clone(d.Cons[j].Fields)
		}
	}
	for i := range p.Defs {
		p.Defs[i].Params, p.Defs[i].Body = slices.Clone(p.Defs[i].Params), copiedExpr(p.Defs[i].Body)
	}
	return p
}

func copiedExpr(x api.Expr) api.Expr {
	x.Names, x.Args, x.Alts = slices.Clone(x.Names), slices.Clone(x.Args), slices.Clone(x.Alts)
	for i, a := range x.Args {
		x.Args[i] = copiedExpr(a)
	}
	for i, a := range x.Alts {
		x.Alts[i] = api.Alt{Pat: copiedPat(a.Pat), Body: copiedExpr(a.Body)}
	}
	return x
}

func copiedPat(p api.Pat) api.Pat {
	p.Args = slices.Clone(p.Args)
	for i, a := range p.Args {
		p.Args[i] = copiedPat(a)
	}
	return p
}

// check asks likewise, and that what comes of a program means what it meant, and takes no more words than it may; it answers the outcome, none, if the program takes too many words.
func check(t *testing.T, p api.Program, most int) string {
	t.Helper()
	q := checkFlat(t, p)
	want, w := plain.Run(p, most)
	if want == "" {
		return ""
	}
	bound := 8 * (w.Looked + w.Got) * (greatestCase(p) + 1)
	got, v := plain.Run(q, bound+w.Parts)
	if got != want || v.Looked+v.Got > bound {
		t.Fatalf("%sbecame\n%s%q in %d words, not %q in %d (from %d)", brief(p), brief(q), got, v.Looked+v.Got, want, bound, w.Looked+w.Got)
	}
	if got := outcome(q, 40*v.Greatest()); got != want {
		t.Fatalf("%sbecame\n%s%q, by layer 9, not %q", brief(p), brief(q), got, want)
	}
	return want
}

// outcome is layer 9's, as a text.
func outcome(p api.Program, fuel int) string {
	out := sense.Run(p, fuel)
	if out.Error != api.OK {
		return plain.ErrorText(out.Error)
	}
	return show.Tree(out.Tree)
}

// checkText asks for a program's outcome, too.
func checkText(t *testing.T, s, want string) {
	t.Helper()
	if got := check(t, parsed(t, s), most); got != want {
		t.Errorf("%s: %q, not %q", strings.TrimPrefix(s, made.Head), got, want)
	}
}

// checkMains asks for the outcomes of mains, with types and functions of all sorts.
func checkMains(t *testing.T, table [][2]string) {
	t.Helper()
	for _, row := range table {
		checkText(t, made.WithMain("", row[0]), row[1])
	}
}
