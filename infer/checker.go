package infer

import (
	"reverie/api"
	"reverie/scope"
	"reverie/unify"
)

// most is how many parts a type has at most.
const most = 1000

// checker finds the types of expressions: variables stand for what isn't known, and are told what it is as it comes out. Once something is wrong, nothing is looked at any more.
type checker struct {
	datas  []api.Data
	cons   map[string]scope.Con
	told   unify.Subst
	count  int           // how many variables there are: 0, 1, ..
	inside map[int][]int // of variables that stand for something, the variables in that
	holds  []name        // the names that hold, the innermost last
	found  []api.Type    // the types of a group's expressions and patterns
	wrong  bool          // whether something has no type
}

func (c *checker) fresh() api.Type {
	c.count++
	return unify.Var(c.count - 1)
}

func (c *checker) freshOnes(n int) []api.Type {
	list := make([]api.Type, n)
	for i := range list {
		list[i] = c.fresh()
	}
	return list
}

// nothing says that something has no type, and stands where one would.
func (c *checker) nothing() api.Type {
	c.wrong = true
	return api.Type{}
}

// one makes the types of two parts one. It measures, too, so that none grows far beyond what one may be.
func (c *checker) one(a, b api.Type) {
	if !c.wrong && c.told.Within(a, b, most) != api.OK {
		c.wrong = true
	}
}

// measure asks, behind all that is told of a group, whether no type in it is too great, as a type may have grown since it was found.
func (c *checker) measure() {
	for _, t := range c.found {
		if c.wrong {
			break
		}
		c.wrong = c.isGreat(t)
	}
	c.found = nil
}

func (c *checker) isGreat(t api.Type) bool { return c.told.Size(t, most) > most }
