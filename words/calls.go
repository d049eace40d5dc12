package words

import (
	"slices"
	"sync"

	"reverie/api"
	"reverie/made"
	"reverie/show"
)

// Call makes programs of programs, as some layers do. What it answers may share parts of programs with what it was handed in, and nothing else.
type Call func(api.Program) api.Program

// Again is what comes of a program, and what is wrong, if another one comes the second time, or if what was handed in is changed.
func Again(p api.Program, call Call) (q api.Program, wrong string) {
	was := made.Copied(p)
	q = call(p)
	if again := call(p); !made.Equal(again, q) {
		return q, made.Brief(was) + "became\n" + made.Brief(q) + "and then\n" + made.Brief(again)
	}
	if !made.Equal(p, was) {
		return q, made.Brief(was) + "was changed by the call"
	}
	return q, ""
}

// Kept is what is wrong, if a call changes what it is handed in, or what lies behind the lengths of its lists, or reads that; or if what is done with its answer changes one of these, or its next answer.
func Kept(p api.Program, call Call) string {
	want := made.Copied(call(p))
	p = made.Wide(p)
	was := made.Whole(p)
	got := call(p)
	if !made.Equal(got, want) {
		return made.Brief(p) + "with other things behind its lists' lengths became\n" + made.Brief(got) + "not\n" + made.Brief(want)
	}
	if !made.Equal(made.Whole(p), was) {
		return made.Brief(p) + "was changed by the call"
	}
	turn(got)
	if !made.Equal(made.Whole(p), was) || !made.Equal(call(p), want) {
		return made.Brief(p) + "was changed, or kept, with an answer that was turned"
	}
	return ""
}

// turn changes all of an answer that isn't a part of a program that it may share.
func turn(p api.Program) {
	for i, d := range p.Defs {
		for j := range d.Params {
			d.Params[j] = "turned"
		}
		p.Defs[i] = api.Def{Name: "turned"}
	}
	for i := range p.Datas {
		p.Datas[i] = api.Data{Name: "Turned"}
	}
}

// Hangs is what is wrong, if an answer hangs on the calls ahead of it, or on such that go on beside it.
func Hangs(list []api.Program, call Call) string {
	var want []api.Program
	for _, p := range list {
		want = append(want, call(p))
	}
	for i, p := range slices.Backward(list) {
		if got := call(made.Copied(p)); !made.Equal(got, want[i]) {
			return show.Program(p) + "became\n" + show.Program(want[i]) + "and behind others\n" + show.Program(got)
		}
	}
	var group sync.WaitGroup
	wrong := make([]string, 8)
	for worker := range wrong {
		group.Go(func() {
			for i, p := range list {
				if got := call(p); !made.Equal(got, want[i]) {
					wrong[worker] = show.Program(p) + "became\n" + show.Program(want[i]) + "and beside others\n" + show.Program(got)
				}
			}
		})
	}
	group.Wait()
	return slices.Max(wrong)
}
