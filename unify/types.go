package unify

import (
	"strconv"
	"strings"

	"reverie/api"
)

// noVar is what Var is of a type that has a name.
const noVar = -1

func isVar(t api.Type) bool { return t.Var >= 0 }

// list is which list one is, by where it begins and how long it is. One list may be in many places, each time in twice as many, so that what is in it can be gone through but once.
type list struct {
	first *api.Type
	count int
}

// listOf takes lists with elements alone.
func listOf(args []api.Type) list { return list{&args[0], len(args)} }

// eachVar tells of the variables, from left to right; what is in a list that comes again isn't told again. Types wait in lists, here and elsewhere, and not in calls within calls, because types may be deeper than calls can be.
func eachVar(t api.Type, found func(n int)) {
	seen := map[list]struct{}{}
	open := [][]api.Type{{t}}
	for len(open) > 0 {
		last := len(open) - 1
		if len(open[last]) == 0 {
			open = open[:last]
			continue
		}
		t := open[last][0]
		open[last] = open[last][1:]
		if isVar(t) {
			found(t.Var)
		} else if len(t.Args) > 0 {
			if _, ok := seen[listOf(t.Args)]; !ok {
				seen[listOf(t.Args)] = struct{}{}
				open = append(open, t.Args)
			}
		}
	}
}

// writer has what was written, and, of each list that is open, what is still to be.
type writer struct {
	text strings.Builder
	open [][]api.Type
}

// Text is a type's text.
func Text(t api.Type) string {
	w := &writer{}
	w.begin(t)
	for len(w.open) > 0 {
		last := len(w.open) - 1
		rest := w.open[last]
		if len(rest) == 0 {
			w.text.WriteByte(')')
			w.open = w.open[:last]
			continue
		}
		w.open[last] = rest[1:]
		w.text.WriteByte(' ')
		w.begin(rest[0])
	}
	return w.text.String()
}

// begin writes a type as far as its list.
func (w *writer) begin(t api.Type) {
	switch {
	case isVar(t):
		w.text.WriteString("t" + strconv.Itoa(t.Var))
	case len(t.Args) == 0:
		w.text.WriteString(t.Name)
	default:
		w.text.WriteString("(" + t.Name)
		w.open = append(w.open, t.Args)
	}
}
