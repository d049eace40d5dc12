// Package plain finds what programs mean in the plainest way, by the words of layer 9's chapter, and counts these. Tests hold layers against it; no layer stands on it.
package plain

import (
	"strconv"

	"reverie/api"
	"reverie/show"
)

// Words are how often each of the chapter's words came on the way to an outcome.
type Words struct {
	Looked int // an expression's value was looked for
	Got    int // a function got sleepers, some at once
	Gave   int // the sleepers that functions got, one by one
	Parts  int // a part of the tree was made
	Others int // what may be taken for a word, or not: main's name, and a definition that is a function
}

// Least and Greatest are how many words there were at least, and at most, as one may read the document.
func (w Words) Least() int { return w.Looked + w.Got + w.Parts }

func (w Words) Greatest() int { return w.Looked + w.Gave + w.Parts + w.Others }

// stop is what a panic tells: the error by which a program stops; ErrFuel, if it takes too many words.
type stop api.Errno

// Run is the outcome of a program that has types, or of what layers 10 to 13 make of such, as a text, and its words; no text, if there are more words than most. A program without types, that looks at a value as at one of another type, stops with ErrArg.
func Run(p api.Program, most int) (outcome string, w Words) {
	r := &runner{most: most, defs: map[string]*sleeper{}}
	for _, d := range p.Defs {
		r.defs[d.Name] = sleeperOf(d)
	}
	defer func() {
		w = r.Words
		if told := recover(); told != nil {
			outcome = textOf(told)
		}
	}()
	r.Others++
	return show.Tree(r.tree(r.defs["main"])), w
}

// textOf is the outcome that a panic tells.
func textOf(told any) string {
	switch e, ok := told.(stop); {
	case !ok:
		return ErrorText(api.ErrArg)
	case e == stop(api.ErrFuel):
		return ""
	default:
		return ErrorText(api.Errno(e))
	}
}

// ErrorText is an error's text.
func ErrorText(e api.Errno) string { return "error " + strconv.Itoa(int(e)) }

type runner struct {
	Words
	most int
	defs map[string]*sleeper
}

// count counts one of some words.
func (r *runner) count(words *int) {
	*words++
	if r.Least() > r.most {
		panic(stop(api.ErrFuel))
	}
}

// tree is all of a sleeper's value.
func (r *runner) tree(s *sleeper) api.Tree {
	is := r.valueOf(s)
	if r.count(&r.Parts); r.Parts > api.MaxTree {
		panic(stop(api.ErrLong))
	}
	switch v := is.(type) {
	case int64:
		return api.Tree{Int: v}
	case point:
		return api.Tree{Name: "cpx", Re: v.re, Im: v.im}
	}
	v := is.(con)
	tree := api.Tree{Name: v.name}
	for _, f := range v.fields {
		tree.Args = append(tree.Args, r.tree(f))
	}
	return tree
}
