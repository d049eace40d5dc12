package parse

import (
	"strings"
	"testing"

	"reverie/api"
	"reverie/lex"
)

// tree is a node, as the document says it; want is what the node should be: a word of the grammar below.
type tree struct {
	tok  api.Token
	kids []*tree
}

// trees are the first nodes of tokens, until one is wrong as nodes, and where; -1: none is. Each has behind it the place in the list where it ends.
func trees(tokens []api.Token, end int) (nodes []*tree, ends []int, wrong int) {
	top := &tree{}
	open := []*tree{top}
	for i, k := range tokens {
		n := &tree{tok: k}
		in := open[len(open)-1]
		switch {
		case k.Kind == api.CloseTok && len(open) == 1, k.Kind == api.OpenTok && len(open) > 40:
			return top.kids[:len(ends)], ends, k.Pos
		case k.Kind == api.CloseTok:
			open = open[:len(open)-1]
		case k.Kind == api.OpenTok:
			open = append(open, n)
			fallthrough
		default:
			in.kids = append(in.kids, n)
		}
		if len(open) == 1 {
			ends = append(ends, i+1)
		}
	}
	if len(open) > 1 {
		return top.kids[:len(ends)], ends, end
	}
	return top.kids, ends, -1
}

// row is how many nodes a list has, how many it has then, of these, if that isn't 0, and what they are, from left to right, the last word for all that follow.
type row struct {
	least, most, then int
	words             string
}

const notNames = " data def fn let case cpx re im cadd cmul "

// rowOf is the list's row of the grammar.
func (n *tree) rowOf(want string) row {
	first := ""
	if len(n.kids) > 0 && n.kids[0].tok.Kind != api.OpenTok {
		first = n.kids[0].tok.Text
	}
	switch want + " " + first {
	case "program data":
		return row{4, 103, 0, "word con names con-list"}
	case "program def":
		return row{4, 4, 0, "word name names expr"}
	case "expr fn":
		return row{3, 3, 0, "word some-names expr"}
	case "expr let":
		return row{3, 3, 0, "word pairs expr"}
	case "expr case":
		return row{3, 18, 0, "word expr alt"}
	case "expr +", "expr -", "expr *", "expr /", "expr %", "expr =", "expr <", "expr cpx", "expr cadd", "expr cmul":
		return row{2, 9, 3, "word expr"}
	case "expr re", "expr im":
		return row{2, 9, 2, "word expr"}
	case "type ->":
		return row{2, 9, 3, "word type"}
	}
	switch want {
	case "names":
		return row{0, 8, 0, "name"}
	case "some-names":
		return row{1, 8, 0, "name"}
	case "pairs":
		return row{1, 8, 0, "pair"}
	case "pair":
		return row{2, 2, 0, "name expr"}
	case "alt":
		return row{2, 2, 0, "pattern expr"}
	case "con-list":
		return row{1, 9, 0, "con type"}
	case "type", "pattern":
		return row{2, 9, 0, "con " + want}
	case "expr":
		return row{2, 9, 0, "expr"}
	}
	return row{}
}

// stands tells whether a token may stand where the grammar has a word.
func stands(k api.Token, want string) bool {
	isName := k.Kind == api.NameTok && !strings.Contains(notNames, " "+k.Text+" ")
	switch want {
	case "word":
		return true
	case "name":
		return isName
	case "con":
		return k.Kind == api.ConTok
	case "type":
		return isName || k.Kind == api.ConTok
	case "expr":
		return isName || k.Kind == api.ConTok || k.Kind == api.IntTok
	case "pattern":
		return isName || k.Kind == api.ConTok || k.Kind == api.IntTok || k.Text == "_"
	}
	return false
}

// wrong is the place of the first part that is wrong, by the grammar; -1: there is none.
func (n *tree) wrong(want string) int {
	if n.tok.Kind != api.OpenTok {
		if stands(n.tok, want) {
			return -1
		}
		return n.tok.Pos
	}
	r := n.rowOf(want)
	words := strings.Fields(r.words)
	switch count := len(n.kids); {
	case len(words) == 0 || count < r.least:
		return n.tok.Pos
	case count > r.most:
		return n.kids[r.most].tok.Pos
	case r.then > 0 && count < r.then:
		return n.tok.Pos
	case r.then > 0 && count > r.then:
		return n.kids[r.then].tok.Pos
	}
	for i, kid := range n.kids {
		if at := kid.wrong(words[min(i, len(words)-1)]); at >= 0 {
			return at
		}
	}
	return -1
}

// wrongProgram is where a text without lexical errors is wrong as a program; -1: it is one.
func wrongProgram(tokens []api.Token, end int) int {
	nodes, _, wrong := trees(tokens, end)
	for i, n := range nodes {
		if i == 100 {
			return n.tok.Pos
		}
		if at := n.wrong("program"); at >= 0 {
			return at
		}
	}
	return wrong
}

// wrongExpr is where a text without lexical errors is wrong as an expression; -1: it is one.
func wrongExpr(tokens []api.Token, end int) int {
	nodes, ends, wrong := trees(tokens, end)
	switch {
	case len(nodes) == 0 && wrong >= 0:
		return wrong
	case len(nodes) == 0:
		return end
	case ends[0] < len(tokens):
		return tokens[ends[0]].Pos
	}
	return nodes[0].wrong("expr")
}

func checkGrammar(t *testing.T, s string) {
	t.Helper()
	tokens, _, e := lex.Tokens([]byte(s))
	if e != api.OK {
		t.Fatalf("%q is no text of tokens", s)
	}
	if _, pos, e := Program([]byte(s)); pos != wrongProgram(tokens, len(s)) || (e == api.OK) != (pos < 0) || e != api.OK && e != api.ErrParse {
		t.Fatalf("program %q: %d %d, not %d", s, pos, e, wrongProgram(tokens, len(s)))
	}
	if _, pos, e := Expr([]byte(s)); pos != wrongExpr(tokens, len(s)) || (e == api.OK) != (pos < 0) || e != api.OK && e != api.ErrParse {
		t.Fatalf("expression %q: %d %d, not %d", s, pos, e, wrongExpr(tokens, len(s)))
	}
}

// TestAllShortTexts holds each text of up to four tokens, one of each kind and word among them, against the document's grammar.
func TestAllShortTexts(t *testing.T) {
	words := strings.Fields("( ) -> + re _ 1 x C fn let case def data")
	texts := []string{""}
	for range 4 {
		var longer []string
		for _, s := range texts {
			for _, w := range words {
				longer = append(longer, s+w+" ")
			}
		}
		for _, s := range longer {
			checkGrammar(t, s)
		}
		texts = longer
	}
}

// TestAllShortLists does so with each list of up to three nodes, these being tokens or short lists, where programs, expressions, patterns and types stand.
func TestAllShortLists(t *testing.T) {
	atoms := strings.Fields("-> + re _ 1 x C fn let case def data")
	lists := []string{"()"}
	for _, a := range atoms {
		lists = append(lists, "("+a+")", "("+a+" x)", "("+a+" 1)", "("+a+" x C)")
	}
	nodes := append(append(lists, "((x 1))", "((x x) (y y))", "((1 x))", "(x (1 2))"), atoms...)
	for _, a := range nodes {
		for _, b := range nodes {
			checkGrammar(t, "("+a+" "+b+")")
			checkGrammar(t, "(data T () (C "+a+" "+b+"))")
			checkGrammar(t, "(case x ("+a+" "+b+"))")
			for _, first := range atoms {
				checkGrammar(t, "("+first+" "+a+" "+b+")")
				checkGrammar(t, "("+first+" x () "+a+" "+b+")")
				checkGrammar(t, "("+first+" "+a+" "+b+" x)")
			}
		}
	}
}
