package fresh_test

import (
	"math/rand/v2"
	"reflect"
	"sync"
	"testing"

	"reverie/api"
	"reverie/flat"
	"reverie/fresh"
	"reverie/made"
	"reverie/show"
)

// samples are programs of all sorts.
func samples(t *testing.T) (list []api.Program) {
	for _, s := range []string{"(def f () 1)", "(def f (x) (fn (x) x))", "(def f (g) (g (let ((g g) (x g)) (case g ((C g x) (g x)) (g g)))))", "(def f (x y) (case (x y) ((C (B x) (C y _)) (fn (x y) (y x))) ((B 3) (x y)) (_ (let ((x y) (y x)) x))))"} {
		list = append(list, named(t, head+s))
	}
	for i := range 100 {
		if s := made.Text(900000+i, made.Rule{Odd: 60, Alts: 4, Deep: 3}); len(s) <= api.MaxSource {
			list = append(list, typed(t, s), flat.Program(typed(t, s)))
		}
		list = append(list, (&maker{Rand: rand.New(rand.NewPCG(uint64(i), 4)), pool: append(inTexts(), inNoText()...)}).program())
	}
	return list
}

// turn changes all of an answer that isn't a part of a program that it may share.
func turn(p api.Program) {
	for i, d := range p.Defs {
		for j := range d.Params {
			d.Params[j] = "turned"
		}
		p.Defs[i] = api.Def{Name: "turned"}
	}
	for i := range p.Datas {
		p.Datas[i] = api.Data{Name: "Turned"}
	}
}

// TestNothingIsChanged: what was handed in is as it was, what lies behind its lists' lengths, too, which isn't read.
func TestNothingIsChanged(t *testing.T) {
	t.Parallel()
	for _, p := range samples(t) {
		want := show.Program(check(t, p))
		p = made.Wide(p)
		was, spare := made.Copied(p), made.Behind(p)
		got := check(t, p)
		if show.Program(got) != want {
			t.Fatalf("%swith other things behind its lists' lengths became\n%snot\n%s", made.Brief(p), made.Brief(got), want)
		}
		if !reflect.DeepEqual(p, was) || !reflect.DeepEqual(made.Behind(p), spare) {
			t.Fatalf("%swas changed by the call", made.Brief(was))
		}
		again := made.Copied(got)
		turn(got)
		if !reflect.DeepEqual(p, was) || !reflect.DeepEqual(fresh.Program(p), again) {
			t.Fatalf("%swas changed, or kept, with an answer that was turned", made.Brief(was))
		}
	}
}

// TestOrderOfCalls: an answer doesn't hang on the calls ahead of it, nor on such that go on beside it.
func TestOrderOfCalls(t *testing.T) {
	t.Parallel()
	list := samples(t)
	var want []api.Program
	for _, p := range list {
		want = append(want, fresh.Program(p))
	}
	for i := range list {
		i = len(list) - 1 - i
		if got := fresh.Program(made.Copied(list[i])); !reflect.DeepEqual(got, want[i]) {
			t.Fatalf("%sbecame\n%sand behind others\n%s", made.Brief(list[i]), made.Brief(want[i]), made.Brief(got))
		}
	}
	var group sync.WaitGroup
	for range 8 {
		group.Go(func() {
			for i, p := range list {
				if got := fresh.Program(p); !reflect.DeepEqual(got, want[i]) {
					t.Errorf("%sbecame\n%sand beside others\n%s", made.Brief(p), made.Brief(want[i]), made.Brief(got))
					return
				}
			}
		})
	}
	group.Wait()
}

// TestOtherParts has parts that layer 2 never answers, or names that don't hold: the calls end, and don't panic.
func TestOtherParts(t *testing.T) {
	t.Parallel()
	for p := range made.Odd {
		was := made.Copied(p)
		q := fresh.Program(p)
		if !reflect.DeepEqual(fresh.Program(p), q) || !reflect.DeepEqual(p, was) {
			t.Fatal("another answer the second time, or a change of", was)
		}
		if wrong := different(q); wrong != "" {
			t.Fatal(wrong, "in", show.Program(q))
		}
	}
	if q := fresh.Program(api.Program{}); len(q.Datas) > 0 || len(q.Defs) > 0 {
		t.Error("of nothing came", q)
	}
}
