package sense

import (
	"reverie/api"
	"reverie/plane"
)

// machine finds values, step by step. What waits for them lies in a list, as calls in calls wouldn't go as deep as a program that calls itself as often as it may.
type machine struct {
	left  int                 // how many steps it may take still
	parts int                 // how many parts of the tree were made
	defs  map[string]*sleeper // what definitions' names stand for
	takes map[string]int      // how many values each operation takes
	waits []waiter            // what waits for values, the innermost last
	expr  *api.Expr           // the expression whose value is looked for; nil, if one was found
	holds *bound              // the names that hold in it
	value value               // the one that was found last
}

// waiter is something that goes on once the machine found a value.
type waiter interface{ goOn(m *machine) }

func (m *machine) step() {
	if m.left < 1 {
		panic(stop(api.ErrFuel))
	}
	m.left--
}

func (m *machine) wait(w waiter) { m.waits = append(m.waits, w) }

func (m *machine) found(v value) { m.expr, m.holds, m.value = nil, nil, v }

func (m *machine) lookFor(x *api.Expr, holds *bound) { m.expr, m.holds = x, holds }

// wake has a sleeper's value found, if it wasn't yet. One without an expression and a value is needed while it is looked for.
func (m *machine) wake(s *sleeper) {
	switch {
	case s.value != nil:
		m.found(s.value)
	case s.expr == nil:
		panic(stop(api.ErrLoop))
	default:
		m.wait(s)
		m.lookFor(s.expr, s.holds)
		s.expr, s.holds = nil, nil
	}
}

// goOn keeps the value that was found, so that it is found once.
func (s *sleeper) goOn(m *machine) { s.value = m.value }

// valueOf is a sleeper's value, while nothing else waits.
func (m *machine) valueOf(s *sleeper) value {
	m.wake(s)
	for m.expr != nil || len(m.waits) > 0 {
		if m.expr != nil {
			m.look()
			continue
		}
		last := len(m.waits) - 1
		w := m.waits[last]
		m.waits[last] = nil
		m.waits = m.waits[:last]
		w.goOn(m)
	}
	return m.value
}

// tree is all of a sleeper's value. It calls itself no deeper than a tree may have parts.
func (m *machine) tree(s *sleeper) api.Tree {
	v := m.valueOf(s)
	m.step()
	if m.parts++; m.parts > api.MaxTree {
		panic(stop(api.ErrLong))
	}
	switch v := v.(type) {
	case int64:
		return api.Tree{Int: v}
	case plane.Point:
		return api.Tree{Name: "cpx", Re: v.Re(), Im: v.Im()}
	case *con:
		t := api.Tree{Name: v.name}
		for _, f := range v.fields {
			t.Args = append(t.Args, m.tree(f))
		}
		return t
	}
	panic(stop(api.ErrArg))
}
