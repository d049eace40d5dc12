package flat_test

import (
	"math/rand/v2"
	"reflect"
	"sync"
	"testing"

	"reverie/api"
	"reverie/flat"
	"reverie/made"
	"reverie/show"
)

// samples are programs of all sorts.
func samples(t *testing.T) (list []api.Program) {
	for _, s := range []string{"1", "(case 1 (2 3))", "(case 1 (_ 3))", "(case (P 1 2) ((P 1 3) 4) ((P x y) (+ x y)))", "(case (P 1 (P 2 3)) ((P 1 (P 1 x)) x) ((P x (P x' y)) (case (P x x') ((P 1 3) 1) (_ y))) (_ 0))", "(let ((f (fn (a b c) (case (P a (P b c)) ((P 1 (P 2 x)) x) (p (fst p)))))) (P (f 1 2 3) (f 4 5 6)))"} {
		list = append(list, parsed(t, made.WithMain("", s)))
	}
	for i := range 150 {
		if s := made.Text(700000+i, made.Rule{Odd: 60, Alts: 4, Deep: 3}); len(s) <= api.MaxSource {
			list = append(list, parsed(t, s))
		}
		if s := (&caser{Rand: rand.New(rand.NewPCG(uint64(i), 2))}).program(); len(s) <= api.MaxSource {
			list = append(list, parsed(t, s))
		}
	}
	return list
}

// TestNothingIsChanged: what was handed in is as it was, what lies behind its lists' lengths, too, which isn't read.
func TestNothingIsChanged(t *testing.T) {
	t.Parallel()
	for _, p := range samples(t) {
		want := show.Program(checkFlat(t, p))
		p = made.Wide(p)
		was, spare := made.Copied(p), made.Behind(p)
		got := flat.Program(p)
		if show.Program(got) != want {
			t.Fatalf("%swith other things behind its lists' lengths became\n%snot\n%s", made.Brief(p), made.Brief(got), want)
		}
		if !reflect.DeepEqual(p, was) || !reflect.DeepEqual(made.Behind(p), spare) {
			t.Fatalf("%swas changed by the call", made.Brief(p))
		}
		for i := range got.Defs {
			got.Defs[i] = api.Def{Name: "turned"}
		}
		if !reflect.DeepEqual(p, was) || show.Program(flat.Program(p)) != want {
			t.Fatalf("%swas changed, or kept, with an answer that was turned", made.Brief(p))
		}
	}
}

// TestOrderOfCalls: an answer doesn't hang on the calls ahead of it, nor on such that go on beside it.
func TestOrderOfCalls(t *testing.T) {
	t.Parallel()
	list := samples(t)
	var want []api.Program
	for _, p := range list {
		want = append(want, flat.Program(p))
	}
	for i := range list {
		i = len(list) - 1 - i
		if got := flat.Program(list[i]); !reflect.DeepEqual(got, want[i]) {
			t.Fatalf("%sbecame\n%sand behind others\n%s", made.Brief(list[i]), made.Brief(want[i]), made.Brief(got))
		}
	}
	var group sync.WaitGroup
	for range 8 {
		group.Go(func() {
			for i, p := range list {
				if got := flat.Program(p); !reflect.DeepEqual(got, want[i]) {
					t.Errorf("%sbecame\n%sand beside others\n%s", made.Brief(p), made.Brief(want[i]), made.Brief(got))
					return
				}
			}
		})
	}
	group.Wait()
}

// TestOtherParts has parts that layer 2 never answers, or names and types that aren't right: the calls end, and don't panic.
func TestOtherParts(t *testing.T) {
	t.Parallel()
	for p := range made.Odd {
		was := made.Copied(p)
		if q := flat.Program(p); !reflect.DeepEqual(flat.Program(p), q) || !reflect.DeepEqual(p, was) {
			t.Fatal("another answer the second time, or a change of", p)
		}
	}
	if q := flat.Program(api.Program{}); len(q.Datas) > 0 || len(q.Defs) > 0 {
		t.Error("of nothing came", q)
	}
}
