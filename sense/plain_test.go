package sense_test

import (
	"math/big"

	"reverie/api"
)

type point struct{ re, im int64 }

// wrapped is a number modulo 2 to the power of bits, from half of that below 0 on.
func wrapped(n *big.Int, bits uint) int64 {
	half := new(big.Int).Lsh(big.NewInt(1), bits-1)
	all := new(big.Int).Lsh(big.NewInt(1), bits)
	far := new(big.Int).Add(n, half)
	far.Mod(far, all)
	return far.Sub(far, half).Int64()
}

// operate is what an operation makes, by the document's words, with numbers of any size.
func operate(name string, is []any) any {
	if p, ok := is[0].(point); ok {
		return ofPoints(name, p, is[1])
	}
	x, y := is[0].(int64), is[1].(int64)
	a, b, made := big.NewInt(x), big.NewInt(y), new(big.Int)
	switch name {
	case "+":
		made.Add(a, b)
	case "-":
		made.Sub(a, b)
	case "*":
		made.Mul(a, b)
	case "/", "%":
		if y == 0 {
			panic(api.ErrDiv)
		}
		left := new(big.Int)
		if made.QuoRem(a, b, left); name == "%" {
			made = left
		}
	case "=":
		return x == y
	case "<":
		return x < y
	case "cpx":
		return point{wrapped(a, 24), wrapped(b, 24)}
	}
	return wrapped(made, 64)
}

func ofPoints(name string, p point, other any) any {
	switch name {
	case "re":
		return p.re
	case "im":
		return p.im
	}
	q := other.(point)
	n := func(a, b, c, d int64) *big.Int { // a times b, and c times d
		made := new(big.Int).Mul(big.NewInt(a), big.NewInt(b))
		return made.Add(made, new(big.Int).Mul(big.NewInt(c), big.NewInt(d)))
	}
	if name == "cadd" {
		return point{wrapped(n(p.re, 1, q.re, 1), 24), wrapped(n(p.im, 1, q.im, 1), 24)}
	}
	return point{wrapped(n(p.re, q.re, -p.im, q.im), 24), wrapped(n(p.re, q.im, p.im, q.re), 24)}
}
