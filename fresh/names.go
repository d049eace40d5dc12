package fresh

import (
	"slices"
	"strconv"
	"strings"
)

// renamer gives each name that is bound a new one.
type renamer struct {
	taken  map[string]int  // how many definitions have a name
	last   int             // the last new name's number
	holds  map[string]hold // of each name that was bound how it is called now
	hidden []hold          // how names were called that are bound once more within, the innermost last
}

// hold is a name, and the new one by which it is called; none, if it isn't bound.
type hold struct{ name, called string }

// bind has a name called by a new one, till it is left.
func (r *renamer) bind(name string) string {
	called := r.newName(name)
	r.hidden = append(r.hidden, hold{name, r.holds[name].called})
	r.holds[name] = hold{name, called}
	return called
}

// leave has names called as they were when so many were hidden.
func (r *renamer) leave(outer int) {
	for _, h := range slices.Backward(r.hidden[outer:]) {
		r.holds[h.name] = h
	}
	r.hidden = r.hidden[:outer]
}

// called is how a name is called. A definition keeps its own.
func (r *renamer) called(name string) string {
	if now := r.holds[name].called; now != "" {
		return now
	}
	return name
}

// newName has the other one's beginning, so that one sees for which it stands, and a number that no other new one has. A point stands between these, as no text has such a name; but a definition that no text had may have it.
func (r *renamer) newName(name string) string {
	beginning, _, _ := strings.Cut(name, ".")
	for {
		r.last++
		called := beginning + "." + strconv.Itoa(r.last)
		if r.taken[called] == 0 {
			return called
		}
	}
}
