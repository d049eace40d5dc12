package made

import (
	"strconv"
	"strings"

	"reverie/api"
	"reverie/infer"
	"reverie/parse"
	"reverie/scope"
	"reverie/show"
)

// Inside is a text some times in itself, in the place of @, and another one innermost.
func Inside(times int, s, last string) string {
	for range times {
		last = strings.Replace(s, "@", last, 1)
	}
	return last
}

// Numbered is a text some times, with 0, 1, .. for # in it.
func Numbered(times int, s string) string {
	var all strings.Builder
	for i := range times {
		all.WriteString(strings.ReplaceAll(s, "#", strconv.Itoa(i)))
	}
	return all.String()
}

// Read is a text's program, that has types; or what is wrong with it.
func Read(s string) (p api.Program, wrong string) {
	p, pos, e := parse.Program([]byte(s))
	if e == api.OK {
		pos, e = scope.Check(p)
	}
	if e == api.OK {
		_, pos, e = infer.Types(p)
	}
	if e != api.OK {
		return api.Program{}, "error " + strconv.Itoa(int(e)) + " at " + strconv.Itoa(pos) + " of " + strconv.Itoa(len(s)) + " bytes: " + s
	}
	return p, ""
}

// Brief is a program's text without the types and functions of Head.
func Brief(p api.Program) string {
	_, s, found := strings.Cut(show.Program(p), "(def nat ")
	if !found {
		return show.Program(p)
	}
	_, s, _ = strings.Cut(s, "\n")
	return s
}
