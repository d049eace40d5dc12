// Package words has words of the document that several layers promise something by, as questions to programs. Tests ask these; no layer stands on it.
package words

import (
	"reverie/api"
	"reverie/made"
	"reverie/plain"
	"reverie/sense"
	"reverie/show"
)

// Bound are all names that a program binds, definition by definition, each as often as it does.
func Bound(p api.Program) (list []string) {
	for _, d := range p.Defs {
		list = append(append(list, d.Params...), made.Bound(d.Body)...)
	}
	return list
}

// Twice is what is wrong, if a name is bound twice, or is a definition's.
func Twice(p api.Program) string {
	times := map[string]int{}
	for _, d := range p.Defs {
		times[d.Name]++
	}
	for _, n := range Bound(p) {
		if times[n]++; times[n] > 1 {
			return n + " is bound twice, or is a definition's"
		}
	}
	return ""
}

// NotFlat is what is wrong, if a program isn't flat.
func NotFlat(p api.Program) (wrong string) {
	for _, d := range p.Defs {
		made.Each(d.Body, func(x api.Expr) {
			if wrong == "" && x.Kind == api.CaseE && !isFlat(x) {
				wrong = "a case isn't flat: " + show.Expr(x)
			}
		}, func(api.Pat) {})
	}
	return wrong
}

// isFlat asks what the document says of a case of a flat program.
func isFlat(x api.Expr) bool {
	if len(x.Args) != 1 || x.Args[0].Kind != api.VarE || len(x.Alts) != 2 || x.Alts[1].Pat.Kind != api.WildP {
		return false
	}
	for _, a := range x.Alts[0].Pat.Args {
		if a.Kind != api.VarP {
			return false
		}
	}
	return x.Alts[0].Pat.Kind == api.IntP || x.Alts[0].Pat.Kind == api.ConP
}

// Outcome is layer 9's, as a text.
func Outcome(p api.Program, fuel int) string {
	return textOf(sense.Run(p, fuel))
}

func textOf(out api.Outcome) string {
	if out.Error != api.OK {
		return plain.ErrorText(out.Error)
	}
	return show.Tree(out.Tree)
}

// LeastFuel is how much fuel a program needs for its outcome, that comes with most of it.
func LeastFuel(p api.Program, most int) int {
	low := 0
	for most-low > 1 {
		if middle := low + (most-low)/2; sense.Run(p, middle).Error == api.ErrFuel {
			low = middle
		} else {
			most = middle
		}
	}
	return most
}
