package parse

import "reverie/api"

const (
	mostCons = 100 // of a type
	mostAlts = 16  // of a case
	mostList = api.MaxArgs + 1
)

// each is what part makes of each node, from left to right, as the first that is wrong decides.
func each[T any](list []node, part func(node) T) []T {
	var parts []T
	for _, n := range list {
		parts = append(parts, part(n))
	}
	return parts
}

func name(n node) string {
	if !n.isName() {
		panic(wrong{n.pos()})
	}
	return n.tok.Text
}

func conName(n node) string {
	if !n.isCon() {
		panic(wrong{n.pos()})
	}
	return n.tok.Text
}

// names are those of a list of at least least, and at most MaxArgs.
func names(n node, least int) []string { return each(n.nodes(least, api.MaxArgs), name) }

// data, as the others below, counts on a literal's calls being made from left to right.
func data(n node) api.Data {
	l := n.nodes(4, 3+mostCons)
	return api.Data{Pos: n.pos(), Name: conName(l[1]), Params: names(l[2], 0), Cons: each(l[3:], con)}
}

func con(n node) api.Con {
	l := n.nodes(1, mostList)
	return api.Con{Pos: n.pos(), Name: conName(l[0]), Fields: each(l[1:], typeE)}
}

func def(n node) api.Def {
	l := n.nodes(4, 4)
	return api.Def{Pos: n.pos(), Name: name(l[1]), Params: names(l[2], 0), Body: expr(l[3])}
}

func typeE(n node) api.TypeE {
	t := api.TypeE{Pos: n.pos(), Name: n.tok.Text}
	switch {
	case n.isCon() || n.isName():
		return t
	case !n.isList():
		panic(wrong{n.pos()})
	}
	l := n.nodes(2, mostList)
	if t.Name = n.word(); t.Name == "->" {
		n.hold(3, 3)
	} else {
		t.Name = conName(l[0])
	}
	t.Args = each(l[1:], typeE)
	return t
}

func pat(n node) api.Pat {
	p := api.Pat{Pos: n.pos()}
	switch {
	case n.isList():
		l := n.nodes(2, mostList)
		p.Kind, p.Name = api.ConP, conName(l[0])
		p.Args = each(l[1:], pat)
	case n.isInt():
		p.Kind, p.Int = api.IntP, n.tok.Int
	case n.isCon():
		p.Kind, p.Name = api.ConP, n.tok.Text
	case n.isName():
		p.Kind, p.Name = api.VarP, n.tok.Text
	case n.tok.Text == "_":
		p.Kind = api.WildP
	default:
		panic(wrong{n.pos()})
	}
	return p
}

func expr(n node) api.Expr {
	x := api.Expr{Pos: n.pos()}
	switch {
	case n.isList():
		return listExpr(n)
	case n.isInt():
		x.Kind, x.Int = api.IntE, n.tok.Int
	case n.isCon():
		x.Kind, x.Name = api.ConE, n.tok.Text
	case n.isName():
		x.Kind, x.Name = api.VarE, n.tok.Text
	default:
		panic(wrong{n.pos()})
	}
	return x
}

func listExpr(n node) api.Expr {
	switch n.word() {
	case "fn":
		return fnExpr(n)
	case "let":
		return letExpr(n)
	case "case":
		return caseExpr(n)
	}
	l := n.nodes(2, mostList)
	x := api.Expr{Kind: api.AppE, Pos: n.pos()}
	switch first := l[0]; {
	case first.takes > 0:
		n.hold(1+first.takes, 1+first.takes)
		x.Kind, x.Name, l = api.PrimE, first.tok.Text, l[1:]
	case first.isCon():
		x.Kind, x.Name, l = api.ConE, first.tok.Text, l[1:]
	}
	x.Args = each(l, expr)
	return x
}

func fnExpr(n node) api.Expr {
	l := n.nodes(3, 3)
	return api.Expr{Kind: api.FnE, Pos: n.pos(), Names: names(l[1], 1), Args: []api.Expr{expr(l[2])}}
}

// letExpr goes from pair to pair, as a pair's expression comes ahead of the next one's name.
func letExpr(n node) api.Expr {
	l := n.nodes(3, 3)
	x := api.Expr{Kind: api.LetE, Pos: n.pos()}
	for _, pair := range l[1].nodes(1, api.MaxArgs) {
		both := pair.nodes(2, 2)
		x.Names = append(x.Names, name(both[0]))
		x.Args = append(x.Args, expr(both[1]))
	}
	x.Args = append(x.Args, expr(l[2]))
	return x
}

func caseExpr(n node) api.Expr {
	l := n.nodes(3, 2+mostAlts)
	return api.Expr{Kind: api.CaseE, Pos: n.pos(), Args: []api.Expr{expr(l[1])}, Alts: each(l[2:], alt)}
}

func alt(n node) api.Alt {
	both := n.nodes(2, 2)
	return api.Alt{Pat: pat(both[0]), Body: expr(both[1])}
}
