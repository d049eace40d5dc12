package plain

import "reverie/api"

func (r *runner) let(x api.Expr, holds *hold) value {
	last := len(x.Names)
	list := sleepers(x.Args[:last], nil)
	inner := with(holds, x.Names, list)
	for _, s := range list {
		s.holds = inner
	}
	return r.value(x.Args[last], inner)
}

func (r *runner) caseOf(x api.Expr, holds *hold) value {
	looked := &sleeper{expr: x.Args[0], holds: holds}
	for _, a := range x.Alts {
		if inner, ok := r.fit(a.Pat, looked, holds); ok {
			return r.value(a.Body, inner)
		}
	}
	panic(stop(api.ErrMatch))
}

// fit tells whether a pattern fits, and which names hold behind it then.
func (r *runner) fit(p api.Pat, s *sleeper, holds *hold) (*hold, bool) {
	switch p.Kind {
	case api.WildP:
		return holds, true
	case api.VarP:
		return &hold{p.Name, s, holds}, true
	case api.IntP:
		return holds, r.valueOf(s) == value(p.Int)
	}
	v := r.valueOf(s).(con)
	ok := v.name == p.Name
	for i := 0; ok && i < len(v.fields); i++ {
		holds, ok = r.fit(p.Args[i], v.fields[i], holds)
	}
	return holds, ok
}

// give lets a function get sleepers: as many as it waits for, and what comes of it the others.
func (r *runner) give(is value, list []*sleeper) value {
	for len(list) > 0 {
		f := is.(function)
		now := min(len(list), len(f.names))
		r.Gave += now
		r.count(&r.Got)
		f.holds = with(f.holds, f.names, list[:now])
		f.names, list = f.names[now:], list[now:]
		if len(f.names) > 0 {
			return f
		}
		is = r.value(f.body, f.holds)
	}
	return is
}

// operate is what an operation makes. Sums and products of points' parts are less than 2^63, so that they are taken as parts in the end.
func operate(name string, list []value) value {
	if p, ok := list[0].(point); ok {
		return ofPoints(name, p, list)
	}
	a, b := list[0].(int64), list[1].(int64)
	switch name {
	case "+":
		return a + b
	case "-":
		return a - b
	case "*":
		return a * b
	case "=":
		return truth(a == b)
	case "<":
		return truth(a < b)
	case "cpx":
		return point{part(a), part(b)}
	}
	if b == 0 {
		panic(stop(api.ErrDiv))
	}
	if name == "/" {
		return a / b
	}
	return a % b
}

func ofPoints(name string, p point, list []value) value {
	switch name {
	case "re":
		return p.re
	case "im":
		return p.im
	}
	q := list[1].(point)
	if name == "cadd" {
		return point{part(p.re + q.re), part(p.im + q.im)}
	}
	return point{part(p.re*q.re - p.im*q.im), part(p.re*q.im + p.im*q.re)}
}

// part is a number modulo 2^24, from half of that below 0 on.
func part(n int64) int64 { return n << 40 >> 40 }

func truth(is bool) value {
	if is {
		return con{name: "True"}
	}
	return con{name: "False"}
}
