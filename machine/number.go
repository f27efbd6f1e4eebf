package machine

import (
	"math"

	"rowmill/api"
)

// reckon does an instruction with two numbers.
func reckon(k kind, a, b int) (api.Value, api.Errno) {
	switch k {
	case add:
		return ranged(a+b, (a+b > a) == (b > 0))
	case subtract:
		return ranged(a-b, (a-b < a) == (b > 0))
	case multiply:
		return ranged(a*b, productFits(a, b))
	}
	if b == 0 {
		return api.Value{}, api.ErrZero
	}
	if k == remainder {
		return ranged(a%b, true)
	}
	return ranged(a/b, a != math.MinInt || b != -1)
}

// productFits divides back, which tells of every product that has wrapped round but the one that wraps back again.
func productFits(a, b int) bool {
	if b == -1 {
		return a != math.MinInt
	}
	return b == 0 || a*b/b == a
}

func negated(v api.Value) (api.Value, api.Errno) {
	if missing(v) {
		return v, api.OK
	}
	return ranged(-v.N, v.N != math.MinInt)
}

// ranged is a number that came out, if it has not wrapped round.
func ranged(n int, fits bool) (api.Value, api.Errno) {
	if !fits {
		return api.Value{}, api.ErrRange
	}
	return api.Value{Kind: api.Int, N: n}, api.OK
}
