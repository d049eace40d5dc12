package words

import (
	"slices"
	"strconv"

	"reverie/api"
	"reverie/made"
	"reverie/plain"
	"reverie/scope"
	"reverie/sense"
	"reverie/show"
)

// OtherHeads is what is wrong, if types and definitions aren't the same, but for the bodies.
func OtherHeads(p, q api.Program) string {
	if !made.EqualTypes(p, q) {
		return "other types"
	}
	same := func(d, e api.Def) bool {
		return d.Name == e.Name && d.Pos == e.Pos && slices.Equal(d.Params, e.Params)
	}
	if !slices.EqualFunc(p.Defs, q.Defs, same) {
		return "other definitions"
	}
	return ""
}

// NotKept is what is wrong in what came of a program, if names don't hold that held, or what was flat isn't flat.
func NotKept(p, q api.Program) string {
	if pos, e := scope.Check(q); e != api.OK {
		if _, e := scope.Check(p); e == api.OK {
			return "a name doesn't hold, or is there twice, at " + strconv.Itoa(pos)
		}
	}
	if wrong := NotFlat(q); wrong != "" && NotFlat(p) == "" {
		return wrong
	}
	return ""
}

// Times is how often each name stands in a program.
func Times(p api.Program) map[string]int {
	times := map[string]int{}
	for _, d := range p.Defs {
		times[d.Name]++
		for _, n := range d.Params {
			times[n]++
		}
		made.Each(d.Body, func(x api.Expr) {
			times[x.Name]++
			for _, n := range x.Names {
				times[n]++
			}
		}, func(p api.Pat) { times[p.Name]++ })
	}
	return times
}

// Unnamed are the parts of an expression that ought to have names, and have none.
func Unnamed(x api.Expr) (list []api.Expr) {
	for i, a := range x.Args {
		applied := x.Kind == api.AppE && i == 0
		if a.Kind == api.VarE || a.Kind == api.IntE && !applied || x.Kind != api.AppE && x.Kind != api.ConE {
			continue
		}
		list = append(list, a)
	}
	return list
}

// NoNames is what is wrong, if arguments have no names.
func NoNames(p api.Program) (wrong string) {
	for _, d := range p.Defs {
		made.Each(d.Body, func(x api.Expr) {
			if len(Unnamed(x)) > 0 {
				wrong = "arguments without names: " + show.Expr(x)
			}
		}, func(api.Pat) {})
	}
	return wrong
}

// Steps is a program's outcome, none, if there are more words than most; and what is wrong, if what came of it hasn't that one, in at most so many times as many words of layer 9's, and steps.
func Steps(p, q api.Program, times, most int) (outcome, wrong string) {
	outcome, w := plain.Run(p, most)
	if outcome == "" {
		return "", ""
	}
	if got, v := plain.Run(q, times*w.Least()); got != outcome || v.Greatest() > times*w.Greatest() {
		return outcome, "it is " + got + " by at most " + strconv.Itoa(v.Greatest()) + " words, not " + outcome + " by " + strconv.Itoa(times) + " times " + strconv.Itoa(w.Greatest())
	}
	need := LeastFuel(p, 40*w.Greatest())
	out := sense.Run(p, need)
	for _, fuel := range []int{times * need, times*need + 1, 10 * times * need} {
		if got := sense.Run(q, fuel); !made.EqualOutcomes(got, out) {
			return outcome, "it is " + textOf(got) + " with " + strconv.Itoa(fuel) + " of fuel, not " + textOf(out) + ", that came with " + strconv.Itoa(need)
		}
	}
	return outcome, ""
}
