package parts

import (
	"strconv"

	"reverie/api"
)

// Namer gives new names.
type Namer struct {
	beginning string
	taken     map[string]int // how often names stand in the program
	last      int            // the last new name's number
}

// NewNamer has all names of a program taken, as the layer that gives new ones may have made some of them before.
func NewNamer(beginning string, p api.Program) *Namer {
	n := &Namer{beginning: beginning, taken: map[string]int{}}
	for _, d := range p.Defs {
		n.take(d.Name)
		n.take(d.Params...)
		n.takeIn(d.Body)
	}
	return n
}

func (n *Namer) take(names ...string) {
	for _, name := range names {
		n.taken[name]++
	}
}

func (n *Namer) takeIn(x api.Expr) {
	n.take(x.Name)
	n.take(x.Names...)
	for _, a := range x.Args {
		n.takeIn(a)
	}
	for _, a := range x.Alts {
		n.takeInPat(a.Pat)
		n.takeIn(a.Body)
	}
}

func (n *Namer) takeInPat(p api.Pat) {
	n.take(p.Name)
	for _, a := range p.Args {
		n.takeInPat(a)
	}
}

// Name is the beginning, a point, and a number: one that no text has, and that comes once in the whole program, so that it hides none, and none hides it.
func (n *Namer) Name() string {
	for {
		n.last++
		name := n.beginning + "." + strconv.Itoa(n.last)
		if n.taken[name] == 0 {
			return name
		}
	}
}
