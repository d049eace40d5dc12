package sense

import "reverie/api"

// look goes one step on towards the value of the expression. One that has no type may be of any shape, and stops the program.
func (m *machine) look() {
	m.step()
	x, holds := m.expr, m.holds
	switch {
	case x.Kind == api.IntE:
		m.found(x.Int)
	case x.Kind == api.VarE:
		m.wake(m.named(x.Name, holds))
	case x.Kind == api.ConE:
		m.found(&con{x.Name, sleepers(x.Args, holds)})
	case x.Kind == api.FnE && len(x.Names) > 0 && len(x.Args) == 1:
		m.found(&function{x.Names, &x.Args[0], holds})
	case x.Kind == api.LetE && len(x.Args) == len(x.Names)+1:
		m.let(x, holds)
	case x.Kind == api.CaseE && len(x.Args) == 1:
		newMatch(x, holds).goOn(m)
	case x.Kind == api.AppE && len(x.Args) > 1:
		m.wait(&arguments{sleepers(x.Args[1:], holds)})
		m.lookFor(&x.Args[0], holds)
	case x.Kind == api.PrimE && len(x.Args) > 0 && len(x.Args) == m.takes[x.Name]:
		m.next(&operation{expr: x, holds: holds})
	case x.Kind == api.FailE:
		panic(stop(api.ErrMatch))
	default:
		panic(stop(api.ErrArg))
	}
}

// named is what a name stands for.
func (m *machine) named(n string, holds *bound) *sleeper {
	for b := holds; b != nil; b = b.outer {
		if b.name == n {
			return b.is
		}
	}
	s, ok := m.defs[n]
	if !ok {
		panic(stop(api.ErrArg))
	}
	return s
}

// let looks for the body's value. The names hold in the sleepers only once all of them do.
func (m *machine) let(x *api.Expr, holds *bound) {
	last := len(x.Names)
	made := sleepers(x.Args[:last], nil)
	for i, s := range made {
		holds = &bound{x.Names[i], s, holds}
	}
	for _, s := range made {
		s.holds = holds
	}
	m.lookFor(&x.Args[last], holds)
}

// arguments wait for a function that gets them.
type arguments struct{ list []*sleeper }

// goOn gives a function the arguments one by one. What is left over waits for what comes of the function.
func (a *arguments) goOn(m *machine) {
	f, ok := m.value.(*function)
	if !ok {
		panic(stop(api.ErrArg))
	}
	names, holds := f.names, f.holds
	for i, s := range a.list {
		m.step()
		holds = &bound{names[0], s, holds}
		if names = names[1:]; len(names) > 0 {
			continue
		}
		if left := a.list[i+1:]; len(left) > 0 {
			m.wait(&arguments{left})
		}
		m.lookFor(f.body, holds)
		return
	}
	m.found(&function{names, f.body, holds})
}

// operation waits for its values, from left to right.
type operation struct {
	expr   *api.Expr
	holds  *bound
	values [mostTakes]Operand
	count  int // how many of the values were found
}

// next looks for the next value of an operation.
func (m *machine) next(o *operation) {
	m.wait(o)
	m.lookFor(&o.expr.Args[o.count], o.holds)
}

func (o *operation) goOn(m *machine) {
	o.values[o.count] = operand(m.value)
	if o.count++; o.count < len(o.expr.Args) {
		m.next(o)
		return
	}
	made, e := makes(o.expr.Name, o.values)
	if e != api.OK {
		panic(stop(e))
	}
	m.found(result(o.expr.Name, made))
}
