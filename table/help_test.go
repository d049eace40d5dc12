package table_test

import (
	"math"

	"reverie/table"
)

// kinds are all kinds there are, and some that there aren't.
var kinds = []int{math.MinInt, -2, -1, 0, 1, 2, 3, 4, 5, 6, 7, 8, 9, 15, 16, 1 << 32, math.MaxInt}

// fields are a sort's numbers but its kind, in api's order.
type fields [7]int

// The places of these.
const (
	ptrs = iota
	nons
	arity
	tag
	code
	of
	pick
)

func (f fields) sort(kind int) table.Info {
	return table.Info{Kind: kind, Ptrs: f[ptrs], Nons: f[nons], Arity: f[arity], Tag: f[tag], Code: f[code], Of: f[of], Pick: f[pick]}
}

func fieldsOf(i table.Info) fields {
	return fields{i.Ptrs, i.Nons, i.Arity, i.Tag, i.Code, i.Of, i.Pick}
}

// rules are the document's, by kinds: of each field whether it is 0 or 1, above 0 (+), or may be any (*). One of a kind's rules has to hold.
var rules = [8][]string{
	table.Con:   {"*00*000"},
	table.Fun:   {"00+0*00"},
	table.Thunk: {"*000*00", "1000**+"},
	table.Pap:   {"0000000"},
	table.Int:   {"0100000"},
	table.Cpx:   {"0100000"},
	table.Ind:   {"1000000"},
	table.Hole:  {"0000000"},
}

// plainRight is whether a sort is right, by the document's words.
func plainRight(i table.Info) bool {
	if i.Kind < 0 || i.Kind > 7 {
		return false
	}
	f := fieldsOf(i)
	for _, n := range f {
		if n < 0 {
			return false
		}
	}
	if float64(f[ptrs])+float64(f[nons]) > 60 {
		return false
	}
	for _, rule := range rules[i.Kind] {
		if holds(rule, f) {
			return true
		}
	}
	return false
}

func holds(rule string, f fields) bool {
	for at, n := range f {
		switch rule[at] {
		case '0', '1':
			if n != int(rule[at]-'0') {
				return false
			}
		case '+':
			if n <= 0 {
				return false
			}
		}
	}
	return true
}

// allSorts are all sorts of any kind whose other numbers are some of those that are told.
func allSorts(numbers []int, do func(table.Info)) {
	var f fields
	var fill func(at int)
	fill = func(at int) {
		if at == len(f) {
			for _, k := range kinds {
				do(f.sort(k))
			}
			return
		}
		for _, n := range numbers {
			f[at] = n
			fill(at + 1)
		}
	}
	fill(0)
}

// rightSorts are right sorts of each kind, many of them, by the document's words.
func rightSorts() (list []table.Info) {
	allSorts([]int{0, 1, 2, 7, 59, 60, math.MaxInt}, func(i table.Info) {
		if plainRight(i) {
			list = append(list, i)
		}
	})
	return list
}

// sizes are from below 0 to above the most, the ends of all there are, and such as are some of these, cut to 32 bits.
func sizes() []int {
	list := []int{math.MinInt, math.MinInt + 1, math.MinInt32, 1 << 31, 1 << 32, 1<<32 + 1, 1<<32 + 2, 1<<32 + 60, math.MaxInt - 1, math.MaxInt}
	for n := -70; n <= 140; n++ {
		list = append(list, n)
	}
	return list
}

// maker makes numbers by a short rule.
type maker struct{ state uint64 }

func (m *maker) word() uint64 {
	m.state = m.state*6364136223846793005 + 1442695040888963407
	high := m.state >> 32
	m.state = m.state*6364136223846793005 + 1442695040888963407
	return high<<32 | m.state>>32
}

// some is a number below n.
func (m *maker) some(n int) int { return int(m.word()>>33) % n }
