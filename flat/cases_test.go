package flat_test

import (
	"fmt"
	"math/rand/v2"
	"slices"
	"strings"
	"sync"
	"testing"

	"reverie/api"
	"reverie/made"
)

// caser makes programs of cases, whose values have parts without a value, by a rule that its seed turns.
type caser struct {
	*rand.Rand
	holds []held
}

// held is a name that holds, and its type.
type held struct {
	name string
	is   kind
}

// kind is a type: a name, and what it is of.
type kind struct {
	name string
	of   []kind
}

func number() kind { return kind{name: "Int"} }

func (c *caser) kind(deep int) kind {
	name := []string{"P", "P", "P", "Box", "May", "Bool", "Int", "E"}[c.IntN(8)]
	if deep == 0 {
		name = "Int"
	}
	k := kind{name: name}
	for range map[string]int{"P": 2, "Box": 1, "May": 1}[name] {
		k.of = append(k.of, c.kind(deep-1))
	}
	if name == "E" {
		k.of = slices.Repeat([]kind{number()}, 8)
	}
	return k
}

// con is a constructor of a type, and what its fields are.
func (c *caser) con(k kind) (string, []kind) {
	switch {
	case k.name == "Bool":
		return []string{"True", "False"}[c.IntN(2)], nil
	case k.name == "May" && c.IntN(3) == 0:
		return "No", nil
	case k.name == "May":
		return "Just", k.of
	}
	return k.name, k.of
}

func list(name string, parts []string) string {
	if len(parts) == 0 {
		return name
	}
	return "(" + name + " " + strings.Join(parts, " ") + ")"
}

// value is an expression of a type. One part in odd has no value.
func (c *caser) value(k kind, odd int) string {
	s := fmt.Sprint(c.IntN(3))
	if k.name != "Int" {
		name, of := c.con(k)
		var parts []string
		for _, f := range of {
			parts = append(parts, c.value(f, odd))
		}
		s = list(name, parts)
	}
	if c.IntN(odd) == 0 {
		return []string{"(case (/ 1 0) (0 " + s + ") (_ " + s + "))", "(case 5 (6 " + s + "))", "(let ((x x)) x)", "(case (P 1 2) ((P 1 3) " + s + ") ((P 3 _) " + s + "))"}[c.IntN(4)]
	}
	return []string{s, s, s, "(id " + s + ")", "(let ((x " + s + ") (y x)) y)", "(case 1 (1 " + s + "))"}[c.IntN(6)]
}

func (c *caser) name() string {
	return []string{"x", "y", "z", "u", "v", "w", "p", "q", "f", "fst", "main"}[c.IntN(11)]
}

// pat is a pattern of a type, whose names are told.
func (c *caser) pat(k kind, names *[]held) string {
	if c.IntN(4) == 0 || k.name == "Int" && c.IntN(2) == 0 {
		n := c.name()
		if c.IntN(3) == 0 || slices.ContainsFunc(*names, func(h held) bool { return h.name == n }) {
			return "_"
		}
		*names = append(*names, held{n, k})
		return n
	}
	if k.name == "Int" {
		return fmt.Sprint(c.IntN(3))
	}
	name, of := c.con(k)
	var parts []string
	for _, f := range of {
		parts = append(parts, c.pat(f, names))
	}
	return list(name, parts)
}

// found are the names that hold and have a type, or another one than a number.
func (c *caser) found(number bool) (all []held) {
	for i, h := range c.holds {
		hidden := slices.ContainsFunc(c.holds[i+1:], func(other held) bool { return other.name == h.name })
		if !hidden && (h.is.name == "Int") == number {
			all = append(all, h)
		}
	}
	return all
}

// body is a number's expression.
func (c *caser) body(deep int) string {
	numbers, others := c.found(true), c.found(false)
	switch kind := c.IntN(6); {
	case kind < 2 && deep > 0 && len(others) > 0:
		h := others[c.IntN(len(others))]
		return c.caseOf(h.name, h.is, deep-1)
	case kind == 2 && deep > 0:
		k := c.kind(3)
		return c.caseOf(c.value(k, 9), k, deep-1)
	case kind == 3 && deep > 0:
		return "(+ " + c.body(deep-1) + " (* 10 " + c.body(deep-1) + "))"
	case kind > 3 && len(numbers) > 0:
		return numbers[c.IntN(len(numbers))].name
	}
	return fmt.Sprint(c.IntN(90))
}

func (c *caser) caseOf(looked string, k kind, deep int) string {
	s := "(case " + looked
	for range 1 + c.IntN(6) {
		outer := c.holds
		var names []held
		p := c.pat(k, &names)
		c.holds = append(slices.Clone(outer), names...)
		s += " (" + p + " " + c.body(deep) + ")"
		c.holds = outer
	}
	if c.IntN(3) > 0 {
		s += " (_ " + c.body(deep) + ")"
	}
	return s + ")"
}

// program has a function with cases that gets values, and a main with some of its own.
func (c *caser) program() string {
	a, b := c.kind(3), c.kind(3)
	c.holds = []held{{"p", a}, {"q", b}}
	f := "(def f (p q) " + c.caseOf("p", a, 3) + ")"
	c.holds = nil
	k := c.kind(3)
	return made.WithMain(f, "(P (f "+c.value(a, 12)+" "+c.value(b, 12)+") "+c.caseOf(c.value(k, 12), k, 3)+")")
}

// inParts does something for each number below n, in parts side by side.
func inParts(t *testing.T, n int, one func(t *testing.T, i int)) {
	for part := range 8 {
		t.Run(fmt.Sprint(part), func(t *testing.T) {
			t.Parallel()
			for i := part; i < n; i += 8 {
				one(t, i)
			}
		})
	}
}

// counts are how often there were outcomes of each kind.
type counts struct {
	sync.Mutex
	of map[string]int
}

func (c *counts) add(outcome string) {
	c.Lock()
	defer c.Unlock()
	if outcome != "" && !strings.HasPrefix(outcome, "error") {
		outcome = "a tree"
	}
	c.of[outcome]++
}

// checkEnough asks that there were enough outcomes of each kind.
func (c *counts) checkEnough(t *testing.T, each int) {
	for _, outcome := range []string{"a tree", noDiv, noMatch, loop} {
		if c.of[outcome] < each {
			t.Error("too few programs of a kind were held:", c.of)
		}
	}
}

// TestMadeCases has cases of all sorts, in each other, that look at values of which parts have none.
func TestMadeCases(t *testing.T) {
	all := counts{of: map[string]int{}}
	t.Run("all", func(t *testing.T) {
		inParts(t, 2400, func(t *testing.T, i int) {
			s := (&caser{Rand: rand.New(rand.NewPCG(uint64(i), 1))}).program()
			if len(s) <= api.MaxSource {
				all.add(check(t, parsed(t, s), most))
			}
		})
	})
	all.checkEnough(t, 150)
}

// TestMadePrograms has programs with parts of all sorts, and cases in all of them.
func TestMadePrograms(t *testing.T) {
	all := counts{of: map[string]int{}}
	t.Run("all", func(t *testing.T) {
		inParts(t, 1600, func(t *testing.T, i int) {
			s := made.Text(500000+i, made.Rule{Odd: []int{20, 60, 200}[i%3], Alts: 1 + i%6, Deep: 1 + i%4})
			if len(s) <= api.MaxSource {
				all.add(check(t, parsed(t, s), 20000))
			}
		})
	})
	all.checkEnough(t, 100)
}
