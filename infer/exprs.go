package infer

import (
	"slices"

	"reverie/api"
	"reverie/unify"
)

func number() api.Type { return unify.Of("Int") }

// expr is an expression's type.
func (c *checker) expr(x api.Expr) api.Type {
	if c.wrong {
		return c.nothing()
	}
	t := c.exprOfKind(x)
	c.found = append(c.found, t)
	return t
}

func (c *checker) exprOfKind(x api.Expr) api.Type {
	switch {
	case x.Kind == api.IntE:
		return number()
	case x.Kind == api.VarE:
		return c.use(x.Name)
	case x.Kind == api.ConE:
		return c.conExpr(x)
	case x.Kind == api.FnE && len(x.Args) == 1:
		return c.fnExpr(x)
	case x.Kind == api.LetE && len(x.Args) == len(x.Names)+1:
		return c.letExpr(x)
	case x.Kind == api.CaseE && len(x.Args) == 1:
		return c.caseExpr(x)
	case x.Kind == api.AppE && len(x.Args) > 0:
		return c.appExpr(x)
	case x.Kind == api.PrimE:
		return c.primExpr(x)
	}
	return c.nothing()
}

func (c *checker) exprs(list []api.Expr) []api.Type {
	types := make([]api.Type, len(list))
	for i, x := range list {
		types[i] = c.expr(x)
	}
	return types
}

// function is the type of functions that take values of some types, one by one.
func function(takes []api.Type, makes api.Type) api.Type {
	t := makes
	for _, taken := range slices.Backward(takes) {
		t = unify.Fn(taken, t)
	}
	return t
}

func (c *checker) fnExpr(x api.Expr) api.Type {
	outer := len(c.holds)
	takes := c.freshOnes(len(x.Names))
	for i, n := range x.Names {
		c.holdAlone(n, takes[i])
	}
	makes := c.expr(x.Args[0])
	c.holds = c.holds[:outer]
	return function(takes, makes)
}

func (c *checker) letExpr(x api.Expr) api.Type {
	outer := len(c.holds)
	last := len(x.Names)
	c.bind(x.Names, x.Args[:last])
	t := c.expr(x.Args[last])
	c.holds = c.holds[:outer]
	return t
}

func (c *checker) caseExpr(x api.Expr) api.Type {
	looked, t := c.expr(x.Args[0]), c.fresh()
	for _, a := range x.Alts {
		outer := len(c.holds)
		c.one(looked, c.pat(a.Pat))
		c.one(c.expr(a.Body), t)
		c.holds = c.holds[:outer]
	}
	return t
}

func (c *checker) appExpr(x api.Expr) api.Type {
	f, left := c.expr(x.Args[0]), c.fresh()
	c.one(f, function(c.exprs(x.Args[1:]), left))
	return left
}

func (c *checker) conExpr(x api.Expr) api.Type {
	fields, t := c.con(x.Name, len(x.Args))
	if c.wrong {
		return t
	}
	for i, a := range x.Args {
		c.one(c.expr(a), fields[i])
	}
	return t
}

func (c *checker) primExpr(x api.Expr) api.Type {
	if count, ok := api.Prims()[x.Name]; !ok || count != len(x.Args) {
		return c.nothing()
	}
	takes, makes := prim(x.Name)
	for _, a := range x.Args {
		c.one(c.expr(a), unify.Of(takes))
	}
	return unify.Of(makes)
}

// prim is of what an operation's arguments are, and what it makes of them.
func prim(name string) (takes, makes string) {
	switch name {
	case "=", "<":
		return "Int", "Bool"
	case "cpx":
		return "Int", "Cpx"
	case "re", "im":
		return "Cpx", "Int"
	case "cadd", "cmul":
		return "Cpx", "Cpx"
	}
	return "Int", "Int"
}
