package sense

import (
	"reverie/api"
	"reverie/plane"
)

// mostTakes is how many values an operation takes at most.
const mostTakes = 2

// makes is what an operation makes of its values, of which one that takes fewer looks at the first ones alone. In Go, too, the least number by -1 wraps round.
func makes(name string, values [mostTakes]Operand) (made Operand, e api.Errno) {
	a, b := values[0], values[1]
	switch name {
	case "+":
		made.N = a.N + b.N
	case "-":
		made.N = a.N - b.N
	case "*":
		made.N = a.N * b.N
	case "/", "%":
		return divided(name, a.N, b.N)
	case "=":
		made.N = oneIf(a.N == b.N)
	case "<":
		made.N = oneIf(a.N < b.N)
	case "cpx":
		made.P = plane.Of(a.N, b.N)
	case "re":
		made.N = a.P.Re()
	case "im":
		made.N = a.P.Im()
	case "cadd":
		made.P = plane.Add(a.P, b.P)
	case "cmul":
		made.P = plane.Mul(a.P, b.P)
	default:
		e = api.ErrArg
	}
	return made, e
}

func divided(name string, a, b int64) (Operand, api.Errno) {
	switch {
	case b == 0:
		return Operand{}, api.ErrDiv
	case name == "/":
		return Operand{N: a / b}, api.OK
	}
	return Operand{N: a % b}, api.OK
}

func oneIf(holds bool) int64 {
	if holds {
		return 1
	}
	return 0
}

// operand is a value as an operation takes it.
func operand(v value) Operand {
	switch v := v.(type) {
	case int64:
		return Operand{N: v}
	case plane.Point:
		return Operand{P: v}
	}
	panic(stop(api.ErrArg))
}

// result is what an operation made, as a value.
func result(name string, made Operand) value {
	switch name {
	case "=", "<":
		return &con{name: truth(made.N)}
	case "cpx", "cadd", "cmul":
		return made.P
	}
	return made.N
}

func truth(n int64) string {
	if n == 1 {
		return "True"
	}
	return "False"
}
