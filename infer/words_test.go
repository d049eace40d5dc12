package infer

import (
	"math/bits"
	"slices"
	"sync"
	"sync/atomic"
	"testing"

	"reverie/api"
	"reverie/show"
	"reverie/unify"
)

// set is some of the types of a world, by their numbers.
type set [3]uint64

func (s set) has(i int) bool { return s[i/64]>>(i%64)&1 == 1 }

func (s *set) add(i int) { s[i/64] |= 1 << (i % 64) }

func (s set) and(o set) set { return set{s[0] & o[0], s[1] & o[1], s[2] & o[2]} }

func (s set) or(o set) set { return set{s[0] | o[0], s[1] | o[1], s[2] | o[2]} }

func (s set) isEmpty() bool { return s == set{} }

// all goes through the numbers in a set.
func (s set) all(yield func(int) bool) {
	for w, word := range s {
		for ; word != 0; word &= word - 1 {
			if !yield(w*64 + bits.TrailingZeros64(word)) {
				return
			}
		}
	}
}

func only(i int) (s set) {
	s.add(i)
	return s
}

// The first types of the world.
const (
	intType = iota
	boolType
)

// world is all types without variables of at most six parts, the smaller ones first. By it the document's words are taken as they stand: which types an expression has is asked of each type, one by one.
type world struct {
	types []api.Type
	fn    [192][]arrow // of each type the functions from it
	l     [192]int     // of each type the lists of it; 0, as that is none
}

// arrow is a function's type: that of what it makes, and its own.
type arrow struct{ to, is int }

func newWorld() *world {
	w := &world{types: []api.Type{unify.Of("Int"), unify.Of("Bool")}}
	for n := 2; n <= 6; n++ {
		now := len(w.types)
		for a := range now {
			if count(w.types[a]) == n-1 {
				w.l[a] = len(w.types)
				w.types = append(w.types, unify.Of("L", w.types[a]))
			}
			for b := range now {
				if count(w.types[a])+count(w.types[b]) == n-1 {
					w.fn[a] = append(w.fn[a], arrow{b, len(w.types)})
					w.types = append(w.types, unify.Fn(w.types[a], w.types[b]))
				}
			}
		}
	}
	return w
}

// names are the types of the names that hold, the innermost last: one of a name alone, all that its scheme is of.
type names []struct {
	name string
	is   set
}

func (n names) with(name string, is set) names {
	return append(n[:len(n):len(n)], names{{name, is}}...)
}

func (n names) of(name string) (is set) {
	for _, one := range n {
		if one.name == name {
			is = one.is
		}
	}
	return is
}

// typesOf are the types of an expression with at most one name in each fn and let.
func (w *world) typesOf(x api.Expr, n names) (s set) {
	switch x.Kind {
	case api.IntE:
		return only(intType)
	case api.VarE:
		return n.of(x.Name)
	case api.ConE:
		return w.ofCon(x, n)
	case api.FnE:
		for a := range w.types {
			if len(w.fn[a]) == 0 {
				continue
			}
			makes := w.typesOf(x.Args[0], n.with(x.Names[0], only(a)))
			for _, f := range w.fn[a] {
				if makes.has(f.to) {
					s.add(f.is)
				}
			}
		}
	case api.LetE:
		var one set
		for a := range w.types {
			if w.typesOf(x.Args[0], n.with(x.Names[0], only(a))).has(a) {
				one.add(a)
			}
		}
		if !one.isEmpty() {
			return w.typesOf(x.Args[1], n.with(x.Names[0], one))
		}
	case api.CaseE:
		for a := range w.typesOf(x.Args[0], n).all {
			s = s.or(w.ofAlts(x.Alts, n, a))
		}
	case api.AppE:
		head, of := x.Args[0], w.typesOf(x.Args[1], n)
		if head.Kind == api.FnE { // whose own type may be too great for the world
			for a := range of.all {
				s = s.or(w.typesOf(head.Args[0], n.with(head.Names[0], only(a))))
			}
			return s
		}
		f := w.typesOf(head, n)
		for a := range of.all {
			for _, g := range w.fn[a] {
				if f.has(g.is) {
					s.add(g.to)
				}
			}
		}
	case api.PrimE:
		if w.typesOf(x.Args[0], n).and(w.typesOf(x.Args[1], n)).has(intType) {
			return only(intType)
		}
	}
	return s
}

func (w *world) ofCon(x api.Expr, n names) (s set) {
	if x.Name == "True" {
		return only(boolType)
	}
	of := set{1<<64 - 1, 1<<64 - 1, 1<<64 - 1}
	if x.Name == "C" {
		of = w.typesOf(x.Args[0], n)
	}
	for a, l := range w.l {
		if l > 0 && of.has(a) {
			s.add(l)
		}
	}
	return s
}

// ofAlts are the types that all that stand behind patterns have, when one is looked at.
func (w *world) ofAlts(alts []api.Alt, n names, looked int) set {
	all := set{1<<64 - 1, 1<<64 - 1, 1<<64 - 1}
	for _, a := range alts {
		inner, ok := w.bound(a.Pat, looked, n)
		if !ok {
			return set{}
		}
		all = all.and(w.typesOf(a.Body, inner))
	}
	return all
}

func (w *world) bound(p api.Pat, looked int, n names) (names, bool) {
	switch p.Kind {
	case api.WildP:
		return n, true
	case api.VarP:
		return n.with(p.Name, only(looked)), true
	case api.IntP:
		return n, looked == intType
	}
	for a, l := range w.l {
		switch {
		case l == 0 || l != looked:
		case p.Name == "N":
			return n, true
		default:
			return w.bound(p.Args[0], a, n)
		}
	}
	return n, false
}

// isInstance tells whether a type without variables is an instance of another one.
func isInstance(general, t api.Type, is map[int]api.Type) bool {
	if general.Var >= 0 {
		was, ok := is[general.Var]
		is[general.Var] = t
		return !ok || unify.Text(was) == unify.Text(t)
	}
	if general.Name != t.Name || len(general.Args) != len(t.Args) {
		return false
	}
	for i, a := range general.Args {
		if !isInstance(a, t.Args[i], is) {
			return false
		}
	}
	return true
}

// exprs are all expressions of some size in which names hold.
func exprs(size int, holds []string) (list []api.Expr) {
	next := []string{"x", "y", "z", "u", "v"}[len(holds)]
	if size == 1 {
		list = append(list, api.Expr{Kind: api.IntE}, api.Expr{Kind: api.ConE, Name: "True"}, api.Expr{Kind: api.ConE, Name: "N"})
		for _, h := range holds {
			list = append(list, api.Expr{Kind: api.VarE, Name: h})
		}
		return list
	}
	more := append(append([]string(nil), holds...), next)
	for _, e := range exprs(size-1, holds) {
		list = append(list, api.Expr{Kind: api.ConE, Name: "C", Args: []api.Expr{e}}, api.Expr{Kind: api.PrimE, Name: "+", Args: []api.Expr{e, {Kind: api.IntE}}})
	}
	for _, e := range exprs(size-1, more) {
		list = append(list, api.Expr{Kind: api.FnE, Names: []string{next}, Args: []api.Expr{e}})
	}
	for first := 1; first < size-1; first++ {
		outer, inner := exprs(size-1-first, holds), exprs(size-1-first, more)
		for _, a := range exprs(first, holds) {
			for _, b := range outer {
				list = append(list, api.Expr{Kind: api.AppE, Args: []api.Expr{a, b}}, either(a, b), caseOf(a, api.Pat{Kind: api.IntP}, b))
			}
			for _, b := range inner {
				list = append(list, caseOf(a, api.Pat{Kind: api.VarP, Name: next}, b), caseOf(a, api.Pat{Kind: api.ConP, Name: "C", Args: []api.Pat{{Kind: api.VarP, Name: next}}}, b))
			}
		}
		for _, a := range exprs(first, more) {
			for _, b := range inner {
				list = append(list, api.Expr{Kind: api.LetE, Names: []string{next}, Args: []api.Expr{a, b}})
			}
		}
	}
	return list
}

func caseOf(x api.Expr, p api.Pat, body api.Expr) api.Expr {
	return api.Expr{Kind: api.CaseE, Args: []api.Expr{x}, Alts: []api.Alt{{Pat: p, Body: body}}}
}

// either makes the types of two expressions one.
func either(a, b api.Expr) api.Expr {
	x := caseOf(api.Expr{Kind: api.IntE}, api.Pat{Kind: api.IntP}, a)
	x.Alts = append(x.Alts, api.Alt{Body: b})
	return x
}

// TestSmallExpressions asks of all expressions of a size whether the most general type is the one of which those are instances that they have. Of greater expressions fewer types are asked for, as those of their parts may be too great for the world.
func TestSmallExpressions(t *testing.T) {
	t.Parallel()
	w := newWorld()
	if len(w.types) != 188 {
		t.Fatal("not the world that was meant:", len(w.types))
	}
	for size, right := range map[int]int{1: 3, 2: 8, 3: 58, 4: 371, 5: 3017} {
		few := 4
		if size == 5 {
			few = 2
		}
		list := exprs(size, nil)
		var held atomic.Int64
		var all sync.WaitGroup
		for some := range slices.Chunk(list, len(list)/8+1) {
			all.Go(func() {
				for _, x := range some {
					if w.check(t, x, few) {
						held.Add(1)
					}
				}
			})
		}
		all.Wait()
		if held.Load() != int64(right) {
			t.Errorf("of %d expressions of size %d %d have types", len(list), size, held.Load())
		}
	}
}

// check asks of each type of the world whether it is an instance, if an expression has it; and of the first few the other way, too.
func (w *world) check(t *testing.T, x api.Expr, few int) bool {
	list := api.Data{Name: "L", Params: []string{"a"}, Cons: []api.Con{{Name: "N"}, {Name: "C", Fields: []api.TypeE{{Name: "a"}}}}}
	types, _, e := Types(api.Program{Datas: []api.Data{list}, Defs: []api.Def{{Name: "it", Body: x}, {Pos: 1, Name: "main"}}})
	has := w.typesOf(x, nil)
	for i, one := range w.types {
		is := e == api.OK && isInstance(types[0], one, map[int]api.Type{})
		if has.has(i) && !is || i < few && is && !has.has(i) {
			t.Errorf("%s: error %d; it has %s: %v", show.Expr(x), e, unify.Text(one), has.has(i))
		}
	}
	return e == api.OK
}
