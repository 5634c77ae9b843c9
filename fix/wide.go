package fix

import (
	"math"
	"math/bits"
)

// wide is a whole number of 128 bits (two's complement), the high half ahead:
// it holds each result of this layer exactly, so that a number stops only at the end.
type wide struct {
	high int64
	low  uint64
}

// number is what may stop: a kind of number that has the ends of int64.
type number interface {
	~int64
}

// stop is the exact number, or the end of N that it is beyond.
func stop[N number](exact wide) N {
	n := N(exact.low)
	switch {
	case widen(int64(n)) == exact:
		return n
	case exact.high < 0:
		return math.MinInt64
	}
	return math.MaxInt64
}

func widen(x int64) wide {
	return wide{high: x >> 63, low: uint64(x)}
}

func (x wide) plus(y wide) wide {
	low, carry := bits.Add64(x.low, y.low, 0)
	return wide{high: x.high + y.high + int64(carry), low: low}
}

func (x wide) minus(y wide) wide {
	low, borrow := bits.Sub64(x.low, y.low, 0)
	return wide{high: x.high - y.high - int64(borrow), low: low}
}

// times is exact where the product has no more than 128 bits. What the high halves
// make of one another lies beyond these bits, so it is left out.
func (x wide) times(y wide) wide {
	high, low := bits.Mul64(x.low, y.low)
	return wide{high: int64(high) + x.high*int64(y.low) + int64(x.low)*y.high, low: low}
}

// over is the floor of x divided by d, that is above 0.
func (x wide) over(d uint64) wide {
	// Of x below 0 all bits are turned, ahead and behind: that is -1-x, which isn't
	// below 0, and the floor of x by d is -1 less the floor of that by d.
	sign := x.high >> 63
	high, low := uint64(x.high^sign), x.low^uint64(sign)
	first, rest := high/d, high%d
	second, _ := bits.Div64(rest, low, d)
	return wide{high: int64(first) ^ sign, low: second ^ uint64(sign)}
}
