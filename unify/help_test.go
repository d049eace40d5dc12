package unify

import (
	"maps"
	"slices"
	"strconv"
	"strings"
	"testing"

	"reverie/api"
)

// typ is a type by its text: t and digits is a variable. Behind each list's length lie other types, which are neither to be read nor written.
func typ(text string) api.Type {
	r := &reader{strings.Fields(strings.NewReplacer("(", " ( ", ")", " ) ").Replace(text))}
	return r.next()
}

type reader struct{ words []string }

func (r *reader) word() string {
	word := r.words[0]
	r.words = r.words[1:]
	return word
}

func (r *reader) next() api.Type {
	word := r.word()
	if word != "(" {
		if n, err := strconv.Atoi(word[1:]); word[0] == 't' && err == nil {
			return api.Type{Var: n}
		}
		return api.Type{Var: -1, Name: word}
	}
	t := api.Type{Var: -1, Name: r.word()}
	for r.words[0] != ")" {
		t.Args = append(t.Args, r.next())
	}
	r.word()
	t.Args = spare(t.Args...)
	return t
}

// spare has room behind a list's length, in which other types lie.
func spare(list ...api.Type) []api.Type {
	wide := append(slices.Clone(list), api.Type{Var: 90}, api.Type{Var: -1, Name: "Behind"})
	return wide[:len(list)]
}

// subst is what is told by texts: a variable, and what it stands for, over and over.
func subst(texts ...string) Subst {
	s := Subst{}
	for i := 0; i < len(texts); i += 2 {
		s[typ(texts[i]).Var] = typ(texts[i+1])
	}
	return s
}

// kept is all that a type holds, what lies behind the lengths of lists among it.
func kept(t api.Type) api.Type {
	args := slices.Clone(t.Args[:cap(t.Args)])
	for i, a := range args {
		args[i] = kept(a)
	}
	t.Args = args
	return t
}

func keptAll(s Subst) Subst {
	was := Subst{}
	for n, t := range s {
		was[n] = kept(t)
	}
	return was
}

// exactly tells whether two types are the same in all that they hold.
func exactly(a, b api.Type) bool {
	return a.Var == b.Var && a.Name == b.Name && slices.EqualFunc(a.Args, b.Args, exactly)
}

// alike tells whether two types are the same by the document's words: of a variable nothing else counts.
func alike(a, b api.Type) bool {
	if a.Var >= 0 || b.Var >= 0 {
		return a.Var == b.Var
	}
	return a.Name == b.Name && slices.EqualFunc(a.Args, b.Args, alike)
}

// clean tells whether no field of a type holds what no sentence names.
func clean(t api.Type) bool {
	if t.Var >= 0 {
		return t.Name == "" && t.Args == nil
	}
	return t.Var == -1 && !slices.ContainsFunc(t.Args, func(a api.Type) bool { return !clean(a) })
}

func checkType(t *testing.T, what string, got, want api.Type) {
	t.Helper()
	if !alike(got, want) || !clean(got) {
		t.Errorf("%s: %v, not %v", what, got, want)
	}
}

// unchanged asks, when the answer is called, whether all that was handed in is as it was.
func unchanged(t *testing.T, what string, s Subst, types ...api.Type) func() {
	t.Helper()
	was := keptAll(s)
	wasTypes := slices.Clone(types)
	for i, one := range types {
		wasTypes[i] = kept(one)
	}
	return func() {
		t.Helper()
		for i, one := range types {
			if !exactly(kept(one), wasTypes[i]) {
				t.Errorf("%s: the type %d was changed", what, i)
			}
		}
		if !maps.EqualFunc(keptAll(s), was, exactly) {
			t.Errorf("%s: the substitution was changed: %v", what, s)
		}
	}
}

// turn changes all that a type holds.
func turn(t api.Type) {
	for i, a := range t.Args {
		turn(a)
		t.Args[i] = api.Type{Var: 77}
	}
}

// meant is a type with what its variables stand for, by the document's words.
func meant(s Subst, t api.Type) api.Type {
	if t.Var >= 0 {
		if is, ok := s[t.Var]; ok {
			return meant(s, is)
		}
		return api.Type{Var: t.Var}
	}
	whole := api.Type{Var: -1, Name: t.Name}
	for _, a := range t.Args {
		whole.Args = append(whole.Args, meant(s, a))
	}
	return whole
}

// parts counts a type's parts.
func parts(t api.Type) int {
	n := 1
	for _, a := range t.Args {
		n += parts(a)
	}
	return n
}
