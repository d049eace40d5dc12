package show

import (
	"slices"
	"strconv"
	"strings"
)

// writer has what was written, and what waits to be, the next one last. Nodes wait here, and not in calls within calls, because trees may be deeper than calls can be.
type writer struct {
	text    strings.Builder
	waiting []node
}

// node writes its text, when its turn comes; of a list the (, and its nodes wait from then on.
type node func(*writer)

// textOf is a part's whole text.
func textOf[T any](part T, write func(*writer, T)) string {
	w := &writer{waiting: one(part, write)}
	for len(w.waiting) > 0 {
		last := len(w.waiting) - 1
		next := w.waiting[last]
		w.waiting = w.waiting[:last]
		next(w)
	}
	return w.text.String()
}

// list writes the list of the groups' nodes, one group behind the other.
func (w *writer) list(groups ...[]node) {
	w.text.WriteByte('(')
	w.waiting = append(w.waiting, (*writer).end)
	for i, n := range slices.Backward(slices.Concat(groups...)) {
		w.waiting = append(w.waiting, n)
		if i > 0 {
			w.waiting = append(w.waiting, (*writer).blank)
		}
	}
}

func (w *writer) end() { w.text.WriteByte(')') }

func (w *writer) blank() { w.text.WriteByte(' ') }

// word writes a name; where a part should have one and has none, a ?, because some text is asked for of such a part too.
func (w *writer) word(s string) {
	if s == "" {
		s = "?"
	}
	w.text.WriteString(s)
}

func (w *writer) number(n int64) { w.text.WriteString(decimal(n)) }

func decimal(n int64) string { return strconv.FormatInt(n, 10) }

// all are the nodes of the parts.
func all[T any](parts []T, write func(*writer, T)) []node {
	nodes := make([]node, len(parts))
	for i, p := range parts {
		nodes[i] = func(w *writer) { write(w, p) }
	}
	return nodes
}

func one[T any](part T, write func(*writer, T)) []node { return all([]T{part}, write) }

func words(texts ...string) []node { return all(texts, (*writer).word) }

// listed is one node: the list of the parts alone.
func listed[T any](parts []T, write func(*writer, T)) []node {
	return []node{func(w *writer) { w.list(all(parts, write)) }}
}

// named writes a name alone, or the list of it and the parts.
func named[T any](w *writer, name string, parts []T, write func(*writer, T)) {
	if len(parts) == 0 {
		w.word(name)
		return
	}
	w.list(words(name), all(parts, write))
}
