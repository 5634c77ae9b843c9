// Package fix is layer 1: see shared/doc/01-fix.md.
package fix

import (
	"math"

	"afterimage/api"
)

// mostParts is the greatest den of a part: up to it, the whole way of int64 times num fits a wide.
const mostParts = 1 << 62

// Add is the sum; it stops.
func Add(a, b int64) int64 {
	return stop[int64](widen(a).plus(widen(b)))
}

// Sub is a less b; it stops.
func Sub(a, b int64) int64 {
	return stop[int64](widen(a).minus(widen(b)))
}

// Neg is the other sign; it stops, as the least int64 has no other sign.
func Neg(a int64) int64 {
	return Sub(0, a)
}

// Mul is the product of two numbers of the game: its floor; it stops.
func Mul(a, b int64) int64 {
	return stop[int64](widen(a).times(widen(b)).over(api.One))
}

// Div is the quotient of two numbers of the game: its floor; it stops, by 0 too.
func Div(a, b int64) int64 {
	if b == 0 {
		return byNothing(a)
	}
	top, bottom := widen(a).times(widen(api.One)), uint64(b)
	if b < 0 {
		// A divisor stands above 0; as both change their signs, the quotient is the same.
		// The least int64 is right, too: its other sign is there as a uint64.
		top, bottom = widen(0).minus(top), -bottom
	}
	return stop[int64](top.over(bottom))
}

// byNothing is what a divided by 0 is: where it would go to.
func byNothing(a int64) int64 {
	switch {
	case a > 0:
		return math.MaxInt64
	case a < 0:
		return math.MinInt64
	}
	return 0
}

// Clamp is x, kept between a and b, whichever of these is the lesser one.
func Clamp(x, a, b int64) int64 {
	return max(min(a, b), min(x, max(a, b)))
}

// Lerp is the number that is num of den on the way from a to b, by the floor.
func Lerp(a, b, num, den int64) (int64, api.Errno) {
	if !isPart(num, den) {
		return 0, api.ErrRange
	}
	way := widen(b).minus(widen(a))
	gone := way.times(widen(num)).over(uint64(den))
	return stop[int64](widen(a).plus(gone)), api.OK
}

// Part is num of den, as a number of the game, by the floor.
func Part(num, den int64) (int64, api.Errno) {
	if !isPart(num, den) {
		return 0, api.ErrRange
	}
	part := widen(num).times(widen(api.One)).over(uint64(den))
	return stop[int64](part), api.OK
}

func isPart(num, den int64) bool {
	return 0 <= num && num <= den && 1 <= den && den <= mostParts
}
