package made

import (
	"math"

	"reverie/api"
)

// Odd has programs of parts that layer 2 never answers, or whose names and types aren't right: nothing is promised of them but what calls may be trusted to do with them anyway.
func Odd(yield func(api.Program) bool) {
	kinds := []int{math.MinInt, -1, 9, math.MaxInt}
	for kind := api.IntE; kind <= api.FailE; kind++ {
		kinds = append(kinds, kind)
	}
	for _, kind := range kinds {
		for i := range 5 * 5 * 5 * 4 {
			x := oddExpr(kinds, kind, i)
			for _, params := range [][]string{nil, {"x"}, {"", "M.1"}, {"x", "x"}} {
				if !yield(api.Program{Defs: []api.Def{{Name: "main", Params: params, Body: x}, {Name: "x", Body: x}, {Body: x}}}) {
					return
				}
			}
		}
	}
}

// oddExpr has one of five lengths for each of its lists, and one of four names.
func oddExpr(kinds []int, kind, i int) api.Expr {
	x := api.Expr{Kind: kind, Name: []string{"", "x", "+", "M.1"}[i/125], Names: make([]string, i%5), Args: make([]api.Expr, i/5%5), Alts: make([]api.Alt, i/25%5)}
	for j := range x.Args {
		x.Args[j] = api.Expr{Kind: kinds[(i+j)%len(kinds)], Name: []string{"x", "y", "M.1"}[i%3], Alts: make([]api.Alt, i%2)}
	}
	for j := range x.Alts {
		x.Alts[j].Pat = api.Pat{Kind: kinds[(i+j)%len(kinds)], Name: "x", Args: []api.Pat{{Kind: api.VarP}, {Kind: kind, Name: "x", Args: make([]api.Pat, 2)}, {Kind: api.ConP}}[:i%4]}
		x.Alts[j].Body = api.Expr{Kind: kinds[(i*j)%len(kinds)], Args: make([]api.Expr, j)}
	}
	return x
}
