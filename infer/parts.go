package infer

import (
	"reverie/api"
	"reverie/unify"
)

// pat is a pattern's type. Its names hold from then on.
func (c *checker) pat(p api.Pat) api.Type {
	if c.wrong {
		return c.nothing()
	}
	t := c.patOfKind(p)
	c.found = append(c.found, t)
	return t
}

func (c *checker) patOfKind(p api.Pat) api.Type {
	switch p.Kind {
	case api.WildP:
		return c.fresh()
	case api.VarP:
		t := c.fresh()
		c.holdAlone(p.Name, t)
		return t
	case api.IntP:
		return number()
	case api.ConP:
		return c.conPat(p)
	}
	return c.nothing()
}

func (c *checker) conPat(p api.Pat) api.Type {
	fields, t := c.con(p.Name, len(p.Args))
	if c.wrong {
		return t
	}
	for i, a := range p.Args {
		c.one(c.pat(a), fields[i])
	}
	return t
}

// con is an instance of a constructor's type: those of its fields, and its own.
func (c *checker) con(name string, count int) ([]api.Type, api.Type) {
	k, ok := c.cons[name]
	if !ok || k.Fields != count {
		return nil, c.nothing()
	}
	if k.Data < 0 {
		return nil, unify.Of("Bool")
	}
	d := c.datas[k.Data]
	args := c.freshOnes(len(d.Params))
	params := map[string]api.Type{}
	for i, n := range d.Params {
		params[n] = args[i]
	}
	return written(d.Cons[k.At].Fields, params), unify.Of(d.Name, args...)
}

// written are the types that are written, with what is told in place of parameters.
func written(list []api.TypeE, params map[string]api.Type) []api.Type {
	var types []api.Type
	for _, t := range list {
		if param, ok := params[t.Name]; ok {
			types = append(types, param)
		} else {
			types = append(types, unify.Of(t.Name, written(t.Args, params)...))
		}
	}
	return types
}
