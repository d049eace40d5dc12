package parse

import "reverie/api"

// node is a token, or a list of nodes.
type node struct {
	tok   api.Token // of a list its (
	list  []node
	takes int // of an operation: how many arguments; else 0
}

// reader makes nodes of tokens.
type reader struct {
	tokens []api.Token
	at     int
	end    int // the length of the text, where a list that isn't closed is wrong
	prims  map[string]int
}

func (r *reader) more() bool { return r.at < len(r.tokens) }

// ahead is the token that comes next; if there is none, the text's end is wrong.
func (r *reader) ahead() api.Token {
	if !r.more() {
		panic(wrong{r.end})
	}
	return r.tokens[r.at]
}

// node reads a node that stands in depth lists.
func (r *reader) node(depth int) node {
	t := r.ahead()
	r.at++
	switch t.Kind {
	case api.CloseTok:
		panic(wrong{t.Pos})
	case api.OpenTok:
		if depth == api.MaxNest {
			panic(wrong{t.Pos})
		}
		return node{tok: t, list: r.rest(depth + 1)}
	}
	return node{tok: t, takes: r.prims[t.Text]}
}

// rest reads a list's nodes, which stand in depth lists, and its ).
func (r *reader) rest(depth int) []node {
	var list []node
	for r.ahead().Kind != api.CloseTok {
		list = append(list, r.node(depth))
	}
	r.at++
	return list
}

func (n node) pos() int     { return n.tok.Pos }
func (n node) isList() bool { return n.tok.Kind == api.OpenTok }
func (n node) isCon() bool  { return n.tok.Kind == api.ConTok }
func (n node) isInt() bool  { return n.tok.Kind == api.IntTok }

// isName tells whether a node is a name token without a meaning of its own.
func (n node) isName() bool {
	switch n.tok.Text {
	case "data", "def", "fn", "let", "case":
		return false
	}
	return n.tok.Kind == api.NameTok && n.takes == 0
}

// word is the text of a list's first node; empty, if there is none, or it is a list.
func (n node) word() string {
	if len(n.list) == 0 || n.list[0].isList() {
		return ""
	}
	return n.list[0].tok.Text
}

// hold asks of a list that it has at least least nodes, and at most most.
func (n node) hold(least, most int) {
	if len(n.list) < least {
		panic(wrong{n.pos()})
	}
	if len(n.list) > most {
		panic(wrong{n.list[most].pos()})
	}
}

// nodes are a list's nodes, of which it has at least least, and at most most.
func (n node) nodes(least, most int) []node {
	if !n.isList() {
		panic(wrong{n.pos()})
	}
	n.hold(least, most)
	return n.list
}
