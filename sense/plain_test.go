package sense_test

import (
	"math/big"

	"reverie/api"
	"reverie/show"
)

// plain finds what a program means in the plainest way, by the document's words, and counts what comes on the way.
type plain struct {
	most   int // how many words there may be, till it gives up
	looked int // how often an expression's value was looked for
	got    int // how often a function got sleepers, some at once
	gave   int // how many sleepers functions got
	parts  int // how many parts of the tree were made
	others int // what may be taken for a word, or not: main's name, and a definition that is a function
	defs   map[string]*lazy
}

// lazy is a sleeper.
type lazy struct {
	x     api.Expr
	holds []hold
	state int // 0: it wasn't looked at; 1: it is being looked at; 2: it has its value
	is    any
	given bool // whether it is a definition that is a function
}

type hold struct {
	name string
	is   *lazy
}

type point struct{ re, im int64 }

type built struct {
	name   string
	fields []*lazy
}

type fun struct {
	names []string
	body  api.Expr
	holds []hold
	got   []*lazy
}

// gaveUp is what the plain way tells of a program that takes too many words.
type gaveUp struct{}

// least and greatest are how many words there were at least, and at most, as one may read the document.
func (c *plain) least() int { return c.looked + c.got + c.parts }

func (c *plain) greatest() int { return c.looked + c.gave + c.parts + c.others }

func (c *plain) count(n *int) {
	*n++
	if c.least() > c.most {
		panic(gaveUp{})
	}
}

// plainly is a program's outcome, as a text, and what was counted; "", if it takes too many words.
func plainly(p api.Program, most int) (outcome string, c *plain) {
	c = &plain{most: most, others: 1, defs: map[string]*lazy{}}
	for _, d := range p.Defs {
		l := &lazy{x: d.Body}
		if len(d.Params) > 0 {
			l.x, l.given = api.Expr{Kind: api.FnE, Names: d.Params, Args: []api.Expr{d.Body}}, true
		}
		c.defs[d.Name] = l
	}
	defer func() {
		switch told := recover().(type) {
		case nil, gaveUp:
		case api.Errno:
			outcome = wrong(told)
		default:
			panic(told)
		}
	}()
	return show.Tree(c.all(c.defs["main"])), c
}

func (c *plain) all(l *lazy) api.Tree {
	is := c.force(l)
	c.count(&c.parts)
	if c.parts > 4096 {
		panic(api.ErrLong)
	}
	switch v := is.(type) {
	case int64:
		return api.Tree{Int: v}
	case point:
		return api.Tree{Name: "cpx", Re: v.re, Im: v.im}
	}
	v := is.(built)
	tree := api.Tree{Name: v.name}
	for _, f := range v.fields {
		tree.Args = append(tree.Args, c.all(f))
	}
	return tree
}

func (c *plain) force(l *lazy) any {
	switch l.state {
	case 1:
		panic(api.ErrLoop)
	case 0:
		l.state = 1
		if l.given {
			c.others++
			l.is = fun{names: l.x.Names, body: l.x.Args[0]}
		} else {
			l.is = c.value(l.x, l.holds)
		}
		l.state = 2
	}
	return l.is
}

func (c *plain) value(x api.Expr, holds []hold) any {
	c.count(&c.looked)
	switch x.Kind {
	case api.IntE:
		return x.Int
	case api.VarE:
		return c.force(c.find(x.Name, holds))
	case api.ConE:
		return built{x.Name, asleep(x.Args, holds)}
	case api.FnE:
		return fun{names: x.Names, body: x.Args[0], holds: holds}
	case api.LetE:
		last := len(x.Names)
		list := asleep(x.Args[:last], nil)
		inner := with(holds, x.Names, list)
		for _, l := range list {
			l.holds = inner
		}
		return c.value(x.Args[last], inner)
	case api.CaseE:
		looked := asleep(x.Args, holds)[0]
		for _, a := range x.Alts {
			if inner, ok := c.fit(a.Pat, looked, holds); ok {
				return c.value(a.Body, inner)
			}
		}
	case api.AppE:
		return c.give(c.value(x.Args[0], holds), asleep(x.Args[1:], holds))
	case api.PrimE:
		var is []any
		for _, a := range x.Args {
			is = append(is, c.value(a, holds))
		}
		return operate(x.Name, append(is, nil))
	}
	panic(api.ErrMatch)
}

func (c *plain) find(name string, holds []hold) *lazy {
	for i := range holds {
		if h := holds[len(holds)-1-i]; h.name == name {
			return h.is
		}
	}
	return c.defs[name]
}

func asleep(list []api.Expr, holds []hold) (all []*lazy) {
	for _, x := range list {
		all = append(all, &lazy{x: x, holds: holds})
	}
	return all
}

// with are names that hold, and others.
func with(holds []hold, names []string, list []*lazy) []hold {
	all := append([]hold{}, holds...)
	for i, l := range list {
		all = append(all, hold{names[i], l})
	}
	return all
}

// give lets a function get sleepers: as many as it waits for, and what comes of it the others.
func (c *plain) give(f any, list []*lazy) any {
	for len(list) > 0 {
		g := f.(fun)
		now := min(len(list), len(g.names)-len(g.got))
		c.count(&c.got)
		c.gave += now
		all := append(append([]*lazy{}, g.got...), list[:now]...)
		list = list[now:]
		if len(all) < len(g.names) {
			return fun{g.names, g.body, g.holds, all}
		}
		f = c.value(g.body, with(g.holds, g.names, all))
	}
	return f
}

func (c *plain) fit(p api.Pat, l *lazy, holds []hold) ([]hold, bool) {
	switch p.Kind {
	case api.WildP:
		return holds, true
	case api.VarP:
		return with(holds, []string{p.Name}, []*lazy{l}), true
	case api.IntP:
		return holds, c.force(l) == p.Int
	}
	v := c.force(l).(built)
	if v.name != p.Name {
		return holds, false
	}
	for i, f := range v.fields {
		inner, ok := c.fit(p.Args[i], f, holds)
		if !ok {
			return holds, false
		}
		holds = inner
	}
	return holds, true
}

// wrapped is a number modulo 2 to the power of bits, from half of that below 0 on.
func wrapped(n *big.Int, bits uint) int64 {
	half := new(big.Int).Lsh(big.NewInt(1), bits-1)
	all := new(big.Int).Lsh(big.NewInt(1), bits)
	far := new(big.Int).Add(n, half)
	far.Mod(far, all)
	return far.Sub(far, half).Int64()
}

// operate is what an operation makes, by the document's words, with numbers of any size.
func operate(name string, is []any) any {
	if p, ok := is[0].(point); ok {
		return ofPoints(name, p, is[1])
	}
	x, y := is[0].(int64), is[1].(int64)
	a, b, made := big.NewInt(x), big.NewInt(y), new(big.Int)
	switch name {
	case "+":
		made.Add(a, b)
	case "-":
		made.Sub(a, b)
	case "*":
		made.Mul(a, b)
	case "/", "%":
		if y == 0 {
			panic(api.ErrDiv)
		}
		left := new(big.Int)
		if made.QuoRem(a, b, left); name == "%" {
			made = left
		}
	case "=":
		return truth(x == y)
	case "<":
		return truth(x < y)
	case "cpx":
		return point{wrapped(a, 24), wrapped(b, 24)}
	}
	return wrapped(made, 64)
}

func truth(is bool) built {
	if is {
		return built{name: "True"}
	}
	return built{name: "False"}
}

func ofPoints(name string, p point, other any) any {
	switch name {
	case "re":
		return p.re
	case "im":
		return p.im
	}
	q := other.(point)
	n := func(a, b, c, d int64) *big.Int { // a times b, and c times d
		made := new(big.Int).Mul(big.NewInt(a), big.NewInt(b))
		return made.Add(made, new(big.Int).Mul(big.NewInt(c), big.NewInt(d)))
	}
	if name == "cadd" {
		return point{wrapped(n(p.re, 1, q.re, 1), 24), wrapped(n(p.im, 1, q.im, 1), 24)}
	}
	return point{wrapped(n(p.re, q.re, -p.im, q.im), 24), wrapped(n(p.re, q.im, p.im, q.re), 24)}
}
