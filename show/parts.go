package show

import "reverie/api"

func data(w *writer, d api.Data) {
	w.list(words("data", d.Name), names(d.Params), all(d.Cons, con))
}

func con(w *writer, c api.Con) { w.list(words(c.Name), all(c.Fields, typeE)) }

func def(w *writer, d api.Def) {
	w.list(words("def", d.Name), names(d.Params), one(d.Body, expr))
}

func names(list []string) []node { return listed(list, (*writer).word) }

func typeE(w *writer, t api.TypeE) { named(w, t.Name, t.Args, typeE) }

func pat(w *writer, p api.Pat) {
	switch p.Kind {
	case api.WildP:
		w.word("_")
	case api.IntP:
		w.number(p.Int)
	default:
		named(w, p.Name, p.Args, pat)
	}
}

func expr(w *writer, x api.Expr) {
	switch x.Kind {
	case api.IntE:
		w.number(x.Int)
	case api.FnE:
		w.list(words("fn"), names(x.Names), all(x.Args, expr))
	case api.LetE:
		pairs, rest := bound(x)
		w.list(words("let"), listed(pairs, pair), all(rest, expr))
	case api.CaseE:
		w.list(words("case"), all(x.Args, expr), all(x.Alts, alt))
	case api.AppE:
		w.list(all(x.Args, expr))
	case api.FailE:
		w.word("fail")
	default:
		named(w, x.Name, x.Args, expr)
	}
}

// binding is a name of a let, and what it is.
type binding struct {
	name string
	is   api.Expr
}

// bound are the names of a let, each with what it is, and what stands behind these: the body, unless the let isn't one that layer 2 answers.
func bound(x api.Expr) (pairs []binding, rest []api.Expr) {
	count := min(len(x.Names), len(x.Args))
	for i, n := range x.Names[:count] {
		pairs = append(pairs, binding{n, x.Args[i]})
	}
	return pairs, x.Args[count:]
}

func pair(w *writer, b binding) { w.list(words(b.name), one(b.is, expr)) }

func alt(w *writer, a api.Alt) { w.list(one(a.Pat, pat), one(a.Body, expr)) }

func tree(w *writer, t api.Tree) {
	switch t.Name {
	case "":
		w.number(t.Int)
	case "cpx":
		w.list(words("cpx", decimal(t.Re), decimal(t.Im)))
	default:
		named(w, t.Name, t.Args, tree)
	}
}
