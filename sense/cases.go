package sense

import (
	"slices"

	"reverie/api"
)

// match is a case that looks for the pattern that fits.
type match struct {
	alts   []api.Alt // those of which none was left behind, the one that is tried first
	looked *sleeper
	outer  *bound
	open   []fitting // what has still to fit for the first one's pattern to do so, the next one last
	holds  *bound    // the names that hold behind that pattern
}

// fitting is a pattern, and the sleeper that it should fit.
type fitting struct {
	pat *api.Pat
	s   *sleeper
}

func newMatch(x *api.Expr, holds *bound) *match {
	c := &match{alts: x.Alts, looked: &sleeper{expr: &x.Args[0], holds: holds}, outer: holds}
	c.begin()
	return c
}

// begin tries the first pattern.
func (c *match) begin() {
	if len(c.alts) == 0 {
		panic(stop(api.ErrMatch))
	}
	c.open = append(c.open[:0], fitting{&c.alts[0].Pat, c.looked})
	c.holds = c.outer
}

// goOn tries patterns till one fits, or till a value is needed that wasn't found yet: then it waits for that.
func (c *match) goOn(m *machine) {
	for len(c.open) > 0 {
		last := len(c.open) - 1
		next := c.open[last]
		if next.s.value == nil && isLook(next.pat) {
			m.wait(c)
			m.wake(next.s)
			return
		}
		c.open = c.open[:last]
		if !c.fits(next.pat, next.s) {
			c.alts = c.alts[1:]
			c.begin()
		}
	}
	m.lookFor(&c.alts[0].Body, c.holds)
}

// isLook tells whether a pattern fits some values alone.
func isLook(p *api.Pat) bool { return p.Kind == api.IntP || p.Kind == api.ConP }

// fits tells whether a pattern fits, as far as that hangs on no field; the fields have to fit then.
func (c *match) fits(p *api.Pat, s *sleeper) bool {
	switch p.Kind {
	case api.WildP:
		return true
	case api.VarP:
		c.holds = &bound{p.Name, s, c.holds}
		return true
	case api.IntP:
		n, ok := s.value.(int64)
		return ok && n == p.Int
	case api.ConP:
		k, ok := s.value.(*con)
		return ok && k.name == p.Name && c.fields(p.Args, k.fields)
	}
	panic(stop(api.ErrArg))
}

// fields has the first field fit next.
func (c *match) fields(pats []api.Pat, list []*sleeper) bool {
	if len(pats) != len(list) {
		return false
	}
	for i, s := range slices.Backward(list) {
		c.open = append(c.open, fitting{&pats[i], s})
	}
	return true
}
