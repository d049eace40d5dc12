package infer

import (
	"slices"

	"reverie/api"
	"reverie/unify"
)

// name is a name that holds, and its scheme.
type name struct {
	name string
	is   api.Type
	any  []int // the variables that stand for any type
	own  []int // of a name that has this type alone the variables in it
}

// holdAlone lets a name hold with one type alone.
func (c *checker) holdAlone(n string, t api.Type) {
	c.holds = append(c.holds, name{name: n, is: t, own: unify.Vars(t)})
}

// use is an instance of the scheme of the name that holds.
func (c *checker) use(n string) api.Type {
	for _, h := range slices.Backward(c.holds) {
		if h.name == n {
			return c.instance(h)
		}
	}
	return c.nothing()
}

func (c *checker) instance(h name) api.Type {
	if len(h.any) == 0 {
		return h.is
	}
	s := unify.Subst{}
	for _, v := range h.any {
		s[v] = c.fresh()
	}
	return s.Apply(h.is)
}

// bind finds the types of expressions in which each of the names has one type, and lets the names hold with schemes from then on. It answers the types.
func (c *checker) bind(names []string, exprs []api.Expr) []api.Type {
	outer := len(c.holds)
	types := c.freshOnes(len(names))
	for i, n := range names {
		c.holdAlone(n, types[i])
	}
	for i, x := range exprs {
		c.one(types[i], c.expr(x))
	}
	c.holds = c.holds[:outer]
	c.holdAny(names, types)
	return types
}

// holdAny lets names hold with schemes, and lays what their types stand for in the place of these. What of them stands for no other type is in the type of another name that holds already, so that own needn't tell it.
func (c *checker) holdAny(names []string, types []api.Type) {
	for i, t := range types {
		if c.wrong || c.isGreat(t) {
			c.wrong = true
			return
		}
		types[i] = c.told.Apply(t)
	}
	around := c.around()
	for i, t := range types {
		var some []int
		for _, v := range unify.Vars(t) {
			if _, ok := around[v]; !ok {
				some = append(some, v)
			}
		}
		c.holds = append(c.holds, name{name: names[i], is: t, any: some})
	}
}

// around are the variables in the types of the names that hold, and in what these stand for, again and again.
func (c *checker) around() map[int]struct{} {
	seen := map[int]struct{}{}
	var open []int
	for _, h := range c.holds {
		open = append(open, h.own...)
	}
	for len(open) > 0 {
		v := open[len(open)-1]
		open = open[:len(open)-1]
		if _, ok := seen[v]; !ok {
			seen[v] = struct{}{}
			open = append(open, c.varsIn(v)...)
		}
	}
	return seen
}

// varsIn are the variables in what a variable stands for. They are kept, as many names are gone through at each let.
func (c *checker) varsIn(v int) []int {
	t, ok := c.told[v]
	if !ok {
		return nil
	}
	list, ok := c.inside[v]
	if !ok {
		list = unify.Vars(t)
		c.inside[v] = list
	}
	return list
}
