package made

import "reverie/api"

// Each goes through an expression and all in it, with the patterns, from outside in, from left to right.
func Each(x api.Expr, expr func(api.Expr), pat func(api.Pat)) {
	expr(x)
	for _, a := range x.Args {
		Each(a, expr, pat)
	}
	for _, a := range x.Alts {
		EachPat(a.Pat, pat)
		Each(a.Body, expr, pat)
	}
}

// EachPat goes through a pattern and all in it.
func EachPat(p api.Pat, pat func(api.Pat)) {
	pat(p)
	for _, a := range p.Args {
		EachPat(a, pat)
	}
}

// Bound are the names that an expression binds, each as often as it does.
func Bound(x api.Expr) (list []string) {
	Each(x, func(x api.Expr) { list = append(list, x.Names...) }, func(p api.Pat) {
		if p.Kind == api.VarP {
			list = append(list, p.Name)
		}
	})
	return list
}
