package scope

import "reverie/api"

// checker goes through a program in the document's order, and keeps the place of the first thing that is wrong.
type checker struct {
	at    int            // nowhere, while nothing was wrong
	types map[string]int // how many parameters each type has, -> among them
	cons  map[string]Con
	bound names
}

func typesOf(p api.Program) map[string]int {
	types := Given()
	types["->"] = 2
	for _, d := range p.Datas {
		types[d.Name] = len(d.Params)
	}
	return types
}

// ask keeps the place, if what stands there isn't right, and all ahead of it was.
func (c *checker) ask(right bool, place int) {
	if !right && c.at == nowhere {
		c.at = place
	}
}

func (c *checker) program(p api.Program) {
	types, cons := namesOf(Given()), namesOf(Cons(api.Program{}))
	for _, d := range p.Datas {
		c.ask(types.add(d.Name), d.Pos)
	}
	for _, d := range p.Datas {
		c.data(d, cons)
	}
	for _, d := range p.Defs {
		c.ask(c.bound.add(d.Name), d.Pos)
	}
	for _, d := range p.Defs {
		c.def(d)
	}
	c.main(p.Defs)
}

// data adds the type's constructors to those that came ahead of them.
func (c *checker) data(d api.Data, cons names) {
	params := names{}
	c.ask(params.addAll(d.Params), d.Pos)
	for _, k := range d.Cons {
		c.ask(cons.add(k.Name), k.Pos)
		for _, f := range k.Fields {
			c.field(f, params)
		}
	}
}

func (c *checker) field(t api.TypeE, params names) {
	count, there := c.types[t.Name]
	c.ask(params.has(t.Name) || there && count == len(t.Args), t.Pos)
	for _, a := range t.Args {
		c.field(a, params)
	}
}

func (c *checker) def(d api.Def) {
	c.ask(comeOnce(d.Params), d.Pos)
	c.bound.addAll(d.Params)
	walker{bound: c.bound, expr: c.expr, pat: c.pat}.walk(d.Body)
	c.bound.dropAll(d.Params)
}

// expr asks of an expression alone, not of its parts.
func (c *checker) expr(x api.Expr) {
	switch x.Kind {
	case api.VarE:
		c.ask(c.bound.has(x.Name), x.Pos)
	case api.ConE:
		c.con(x.Name, len(x.Args), x.Pos)
	case api.FnE, api.LetE:
		c.ask(comeOnce(x.Names), x.Pos)
	}
}

// pat asks of a pattern and all its parts.
func (c *checker) pat(p api.Pat) { c.part(p, names{}) }

// part adds the names to those that stand ahead of them in the whole pattern.
func (c *checker) part(p api.Pat, seen names) {
	switch p.Kind {
	case api.VarP:
		c.ask(seen.add(p.Name), p.Pos)
	case api.ConP:
		c.con(p.Name, len(p.Args), p.Pos)
	}
	for _, a := range p.Args {
		c.part(a, seen)
	}
}

func (c *checker) con(name string, fields, place int) {
	k, there := c.cons[name]
	c.ask(there && k.Fields == fields, place)
}

func (c *checker) main(defs []api.Def) {
	for _, d := range defs {
		if d.Name == "main" {
			c.ask(len(d.Params) == 0, d.Pos)
			return
		}
	}
	c.ask(false, 0)
}
