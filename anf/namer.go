package anf

import (
	"strconv"

	"reverie/api"
)

// namer gives arguments names.
type namer struct {
	taken map[string]int // how often names stand in the program
	last  int            // the last new name's number
}

// newNamer has all names of definitions taken, as this layer may have made some of them before.
func newNamer(defs []api.Def) *namer {
	n := &namer{taken: map[string]int{}}
	for _, d := range defs {
		n.take(d.Name)
		n.take(d.Params...)
		n.takeIn(d.Body)
	}
	return n
}

func (n *namer) take(names ...string) {
	for _, name := range names {
		n.taken[name]++
	}
}

func (n *namer) takeIn(x api.Expr) {
	n.take(x.Name)
	n.take(x.Names...)
	for _, a := range x.Args {
		n.takeIn(a)
	}
	for _, a := range x.Alts {
		n.takeInPat(a.Pat)
		n.takeIn(a.Body)
	}
}

func (n *namer) takeInPat(p api.Pat) {
	n.take(p.Name)
	for _, a := range p.Args {
		n.takeInPat(a)
	}
}

// newName is one that no text has, and that is bound once in the whole program, so that it hides none, and none hides it.
func (n *namer) newName() string {
	for {
		n.last++
		name := "A." + strconv.Itoa(n.last)
		if n.taken[name] == 0 {
			return name
		}
	}
}

func (n *namer) expr(x api.Expr) api.Expr {
	x = inParts(x, n.expr)
	if x.Kind != api.AppE && x.Kind != api.ConE {
		return x
	}
	let := api.Expr{Kind: api.LetE}
	for i, a := range x.Args {
		applied := x.Kind == api.AppE && i == 0
		if a.Kind == api.VarE || a.Kind == api.IntE && !applied {
			continue
		}
		name := n.newName()
		x.Args[i] = api.Expr{Kind: api.VarE, Name: name}
		let.Names, let.Args = append(let.Names, name), append(let.Args, a)
	}
	if len(let.Names) == 0 {
		return x
	}
	let.Args = append(let.Args, x)
	return let
}
