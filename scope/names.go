package scope

import "reverie/api"

// names tells how often each name was added and not dropped since, as a name that holds may be bound once more within.
type names map[string]int

func (n names) has(name string) bool { return n[name] > 0 }

// add tells whether the name wasn't there.
func (n names) add(name string) bool {
	n[name]++
	return n[name] == 1
}

// addAll tells whether each name wasn't there, and none came twice.
func (n names) addAll(list []string) bool {
	once := true
	for _, name := range list {
		once = n.add(name) && once
	}
	return once
}

func (n names) dropAll(list []string) {
	for _, name := range list {
		n[name]--
	}
}

func comeOnce(list []string) bool { return names{}.addAll(list) }

// namesOf are the names that a map tells of.
func namesOf[V any](m map[string]V) names {
	n := names{}
	for name := range m {
		n.add(name)
	}
	return n
}

// walker goes through an expression from outside in, from left to right. Whoever is told of a part finds in bound what the parts around it bind there.
type walker struct {
	bound names
	expr  func(api.Expr)
	pat   func(api.Pat)
}

// walk lets names hold in all of Args, as those are fn's body alone, and let's expressions and its body.
func (w walker) walk(x api.Expr) {
	w.expr(x)
	w.bound.addAll(x.Names)
	for _, a := range x.Args {
		w.walk(a)
	}
	w.bound.dropAll(x.Names)
	for _, a := range x.Alts {
		w.alt(a)
	}
}

func (w walker) alt(a api.Alt) {
	w.pat(a.Pat)
	list := patNames(a.Pat)
	w.bound.addAll(list)
	w.walk(a.Body)
	w.bound.dropAll(list)
}

// patNames are the names that a pattern binds.
func patNames(p api.Pat) []string {
	if p.Kind == api.VarP {
		return []string{p.Name}
	}
	var list []string
	for _, a := range p.Args {
		list = append(list, patNames(a)...)
	}
	return list
}
