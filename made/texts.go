package made

import (
	"strconv"
	"strings"

	"reverie/api"
	"reverie/infer"
	"reverie/parse"
	"reverie/scope"
	"reverie/show"
)

// Inside is a text some times in itself, in the place of @, and another one innermost.
func Inside(times int, s, last string) string {
	for range times {
		last = strings.Replace(s, "@", last, 1)
	}
	return last
}

// Numbered is a text some times, with 0, 1, .. for # in it.
func Numbered(times int, s string) string {
	var all strings.Builder
	for i := range times {
		all.WriteString(strings.ReplaceAll(s, "#", strconv.Itoa(i)))
	}
	return all.String()
}

// Read is a text's program, that has types; or what is wrong with it.
func Read(s string) (p api.Program, wrong string) {
	p, wrong = Named(s)
	if wrong != "" {
		return api.Program{}, wrong
	}
	if _, pos, e := infer.Types(p); e != api.OK {
		return api.Program{}, wrongAt(s, pos, e)
	}
	return p, ""
}

// Named is a text's program, whose names hold, and that needn't have types; or what is wrong with it.
func Named(s string) (p api.Program, wrong string) {
	p, pos, e := parse.Program([]byte(s))
	if e == api.OK {
		pos, e = scope.Check(p)
	}
	if e != api.OK {
		return api.Program{}, wrongAt(s, pos, e)
	}
	return p, ""
}

// Deepest is the program of as many parts in each other as a text may have, with names that hold, if one of nine in each other has such: each part's text is told by its number, from within outward, with the next one within in the place of @.
func Deepest(whole, last string, part func(i int) string) (p api.Program, wrong string) {
	for times := 40; times > 8; times-- {
		s := last
		for i := range times {
			s = strings.Replace(part(i), "@", s, 1)
		}
		if p, wrong = Named(strings.Replace(whole, "@", s, 1)); wrong == "" {
			return p, ""
		}
	}
	return api.Program{}, wrong
}

func wrongAt(s string, pos int, e api.Errno) string {
	return "error " + strconv.Itoa(int(e)) + " at " + strconv.Itoa(pos) + " of " + strconv.Itoa(len(s)) + " bytes: " + s
}

// Brief is a program's text without the types and functions of Head.
func Brief(p api.Program) string {
	_, s, found := strings.Cut(show.Program(p), "(def nat ")
	if !found {
		return show.Program(p)
	}
	_, s, _ = strings.Cut(s, "\n")
	return s
}
