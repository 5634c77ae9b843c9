package fix

import (
	"math"
	"math/big"
	"math/rand/v2"
	"testing"

	"afterimage/api"
)

const greatest, least = math.MaxInt64, math.MinInt64

// edges are numbers near which results stop, change their sign or are cut by the floor.
func edges() []int64 {
	return []int64{
		least, least + 1, least + 65536, -1<<62 - 1, -1 << 62, -1 << 48, -1<<47 - 1, -1 << 47, -1<<47 + 1, -1 << 40,
		-65537, -65536, -65535, -32768, -3, -2, -1, 0, 1, 2, 3, 32768, 65535, 65536, 65537,
		1 << 39, 1<<47 - 1, 1 << 47, 1<<47 + 1, 1 << 48, 1<<62 - 1, 1 << 62, 1<<62 + 1, greatest - 65536, greatest - 1, greatest,
	}
}

// chance is a row of numbers of all sizes, the same one at each run.
func chance() func() int64 {
	r := rand.New(rand.NewPCG(1, 2))
	return func() int64 { return int64(r.Uint64()) >> r.IntN(64) }
}

// eachPair goes through all pairs of edges, and some more.
func eachPair(f func(a, b int64)) {
	for _, a := range edges() {
		for _, b := range edges() {
			f(a, b)
		}
	}
	next := chance()
	for range 50000 {
		f(next(), next())
	}
}

func whole(x int64) *big.Int { return big.NewInt(x) }

// floorOf is the floor of a quotient; big's Div is that where the divisor is above 0.
func floorOf(a, b *big.Int) *big.Int {
	if b.Sign() < 0 {
		a, b = new(big.Int).Neg(a), new(big.Int).Neg(b)
	}
	return new(big.Int).Div(a, b)
}

func stopped(x *big.Int) int64 {
	switch {
	case x.IsInt64():
		return x.Int64()
	case x.Sign() < 0:
		return least
	}
	return greatest
}

type reckoned struct{ a, b, want int64 }

func holdAgainst(t *testing.T, name string, f func(a, b int64) int64, rows []reckoned) {
	t.Helper()
	for _, r := range rows {
		if got := f(r.a, r.b); got != r.want {
			t.Errorf("%s(%d, %d) = %d, want %d", name, r.a, r.b, got, r.want)
		}
	}
}

func holdAgainstModel(t *testing.T, name string, f func(a, b int64) int64, model func(a, b *big.Int) *big.Int) {
	t.Helper()
	eachPair(func(a, b int64) {
		if got, want := f(a, b), stopped(model(whole(a), whole(b))); got != want {
			t.Errorf("%s(%d, %d) = %d, want %d", name, a, b, got, want)
		}
	})
}

// P1.1: Add.
func TestAdd(t *testing.T) {
	holdAgainst(t, "Add", Add, []reckoned{
		{1, 2, 3}, {-5, 3, -2}, {0, 0, 0},
		{greatest, 0, greatest}, {greatest, 1, greatest}, {greatest - 1, 1, greatest}, {greatest, greatest, greatest},
		{least, 0, least}, {least, -1, least}, {least + 1, -1, least}, {least, least, least},
		{greatest, least, -1}, {least, greatest, -1},
	})
	holdAgainstModel(t, "Add", Add, func(a, b *big.Int) *big.Int { return new(big.Int).Add(a, b) })
}

// P1.1: Sub.
func TestSub(t *testing.T) {
	holdAgainst(t, "Sub", Sub, []reckoned{
		{1, 2, -1}, {-5, 3, -8}, {0, 0, 0},
		{0, least, greatest}, {-1, least, greatest}, {1, least, greatest}, {greatest, -1, greatest}, {greatest, least, greatest},
		{least, 1, least}, {-1, greatest, least}, {-2, greatest, least}, {least, greatest, least},
		{least, least, 0}, {greatest, greatest, 0},
	})
	holdAgainstModel(t, "Sub", Sub, func(a, b *big.Int) *big.Int { return new(big.Int).Sub(a, b) })
}

// P1.1: Neg.
func TestNeg(t *testing.T) {
	for _, c := range [][2]int64{{0, 0}, {1, -1}, {-7, 7}, {greatest, least + 1}, {least + 1, greatest}, {least, greatest}} {
		if got := Neg(c[0]); got != c[1] {
			t.Errorf("Neg(%d) = %d, want %d", c[0], got, c[1])
		}
	}
	for _, a := range edges() {
		if got, want := Neg(a), stopped(new(big.Int).Neg(whole(a))); got != want {
			t.Errorf("Neg(%d) = %d, want %d", a, got, want)
		}
	}
}

// P1.1: Mul.
func TestMul(t *testing.T) {
	holdAgainst(t, "Mul", Mul, []reckoned{
		{98304, -32768, -49152}, {-1, 1, -1}, {1, -1, -1}, {1, 1, 0}, {-1, -1, 0}, {65536, 7, 7}, {-65536, 7, -7},
		{65535, 1, 0}, {-65535, 1, -1}, {-65536, 1, -1}, {-65537, 1, -2},
		{greatest, 65536, greatest}, {greatest, 65537, greatest}, {greatest, 65535, greatest - 1<<47},
		{least, 65536, least}, {least, 65537, least}, {least, -65536, greatest}, {least, 65535, least + 1<<47},
		{1 << 40, 1 << 39, greatest}, {1 << 40, 1<<39 - 1, greatest - 1<<24 + 1}, {1 << 40, -1 << 39, least}, {1 << 40, -1<<39 - 1, least},
		{least, least, greatest}, {greatest, greatest, greatest}, {least, greatest, least}, {greatest, 0, 0}, {0, least, 0},
	})
	holdAgainstModel(t, "Mul", Mul, func(a, b *big.Int) *big.Int {
		return floorOf(new(big.Int).Mul(a, b), whole(65536))
	})
}

// P1.1: Div.
func TestDiv(t *testing.T) {
	holdAgainst(t, "Div", Div, []reckoned{
		{1, 2, 32768}, {98304, -32768, -196608}, {7, -3, -152918}, {-7, 3, -152918}, {7, 3, 152917}, {-7, -3, 152917},
		{greatest, 65536, greatest}, {greatest, 65535, greatest}, {least, 65536, least}, {least, 65535, least}, {least, -65536, greatest},
		{1<<47 - 1, 1, greatest - 65535}, {1 << 47, 1, greatest}, {-1 << 47, 1, least}, {1 << 47, -1, least}, {-1 << 47, -1, greatest},
		{1, greatest, 0}, {-1, greatest, -1}, {1, least, -1}, {-1, least, 0}, {least, least, 65536}, {greatest, least, -65536},
	})
	holdAgainstModel(t, "Div", Div, func(a, b *big.Int) *big.Int {
		if b.Sign() == 0 { // beyond all int64, on a's side
			return new(big.Int).Lsh(a, 64)
		}
		return floorOf(new(big.Int).Lsh(a, 16), b)
	})
}

// P1.1: a divisor of 0.
func TestDivByNothing(t *testing.T) {
	holdAgainst(t, "Div", Div, []reckoned{
		{0, 0, 0}, {1, 0, greatest}, {5, 0, greatest}, {greatest, 0, greatest}, {-1, 0, least}, {-5, 0, least}, {least, 0, least},
	})
}

// P1.1: Clamp.
func TestClamp(t *testing.T) {
	for _, c := range []struct{ x, a, b, want int64 }{
		{0, 1, 3, 1}, {1, 1, 3, 1}, {2, 1, 3, 2}, {3, 1, 3, 3}, {4, 1, 3, 3},
		{0, 3, 1, 1}, {1, 3, 1, 1}, {2, 3, 1, 2}, {3, 3, 1, 3}, {4, 3, 1, 3},
		{7, 5, 5, 5}, {3, 5, 5, 5}, {5, 5, 5, 5},
		{least, -1, 1, -1}, {greatest, -1, 1, 1}, {0, least, greatest, 0}, {0, greatest, least, 0},
		{least, least, greatest, least}, {greatest, greatest, least, greatest}, {0, least, least, least}, {0, greatest, greatest, greatest},
	} {
		if got := Clamp(c.x, c.a, c.b); got != c.want {
			t.Errorf("Clamp(%d, %d, %d) = %d, want %d", c.x, c.a, c.b, got, c.want)
		}
	}
}

// P1.2: Lerp, where the document and its edges say the number.
func TestLerp(t *testing.T) {
	for _, c := range []struct{ a, b, num, den, want int64 }{
		{0, 10, 1, 3, 3}, {10, 0, 1, 3, 6}, {-7, -3, 1, 2, -5}, {0, -1, 1, 2, -1}, {0, 1, 1, 2, 0}, {5, 5, 3, 7, 5},
		{2, 9, 0, 1, 2}, {2, 9, 1, 1, 9}, {9, 2, 0, 1, 9}, {9, 2, 1, 1, 2},
		{2, 9, 0, 1 << 62, 2}, {2, 9, 1 << 62, 1 << 62, 9}, {2, 9, 1<<62 - 1, 1 << 62, 8}, {9, 2, 1, 1 << 62, 8},
		{least, greatest, 1, 2, -1}, {greatest, least, 1, 2, -1},
		{least, greatest, 0, 1 << 62, least}, {greatest, least, 0, 1 << 62, greatest},
		{least, greatest, 1, 1 << 62, least + 3}, {greatest, least, 1, 1 << 62, greatest - 4},
		{least, greatest, 1<<62 - 1, 1 << 62, greatest - 4}, {greatest, least, 1<<62 - 1, 1 << 62, least + 3},
		{least, greatest, 1 << 62, 1 << 62, greatest}, {greatest, least, 1 << 62, 1 << 62, least},
	} {
		if got, e := Lerp(c.a, c.b, c.num, c.den); got != c.want || e != api.OK {
			t.Errorf("Lerp(%d, %d, %d, %d) = %d, %v, want %d", c.a, c.b, c.num, c.den, got, e, c.want)
		}
	}
}

// P1.2: Part.
func TestPart(t *testing.T) {
	for _, c := range []struct{ num, den, want int64 }{
		{0, 1, 0}, {1, 1, 65536}, {1, 2, 32768}, {1, 3, 21845}, {2, 3, 43690}, {1, 65536, 1}, {1, 65537, 0}, {65536, 65537, 65535},
		{0, 1 << 62, 0}, {1, 1 << 62, 0}, {1<<46 - 1, 1 << 62, 0}, {1 << 46, 1 << 62, 1}, {1<<62 - 1, 1 << 62, 65535}, {1 << 62, 1 << 62, 65536},
	} {
		if got, e := Part(c.num, c.den); got != c.want || e != api.OK {
			t.Errorf("Part(%d, %d) = %d, %v, want %d", c.num, c.den, got, e, c.want)
		}
	}
}

// mayBePart is the document's sentence on num and den, in its own words.
func mayBePart(num, den int64) bool {
	return !(num < 0 || num > den || den < 1 || den > 1<<62)
}

// P1.2: Lerp and Part, with all that may be a part and all that may not.
func TestPartsByModel(t *testing.T) {
	next := chance()
	eachPair(func(num, den int64) {
		a, b := next(), next()
		way := new(big.Int).Sub(whole(b), whole(a))
		lerp, lerpError := Lerp(a, b, num, den)
		part, partError := Part(num, den)
		if !mayBePart(num, den) {
			if lerp != 0 || part != 0 || lerpError != api.ErrRange || partError != api.ErrRange {
				t.Errorf("%d of %d: Lerp %d, %v, Part %d, %v", num, den, lerp, lerpError, part, partError)
			}
			return
		}
		gone := floorOf(way.Mul(way, whole(num)), whole(den))
		if want := gone.Add(gone, whole(a)); lerpError != api.OK || whole(lerp).Cmp(want) != 0 {
			t.Errorf("Lerp(%d, %d, %d, %d) = %d, %v, want %d", a, b, num, den, lerp, lerpError, want)
		}
		if want := floorOf(new(big.Int).Lsh(whole(num), 16), whole(den)); partError != api.OK || whole(part).Cmp(want) != 0 {
			t.Errorf("Part(%d, %d) = %d, %v, want %d", num, den, part, partError, want)
		}
	})
}

// P1.2: what may not be a part.
func TestWrongParts(t *testing.T) {
	for _, c := range [][2]int64{
		{-1, 5}, {least, 5}, {6, 5}, {2, 1}, {greatest, 5}, {greatest, 1 << 62}, {1<<62 + 1, 1 << 62},
		{0, 0}, {1, 0}, {-1, 0}, {0, -1}, {-1, -1}, {-2, -1}, {0, least}, {least, least},
		{0, 1<<62 + 1}, {5, 1<<62 + 1}, {1<<62 + 1, 1<<62 + 1}, {0, greatest}, {greatest, greatest}, {-1, greatest},
	} {
		for _, ends := range [][2]int64{{1, 2}, {7, 7}, {least, greatest}, {greatest, least}} {
			if got, e := Lerp(ends[0], ends[1], c[0], c[1]); got != 0 || e != api.ErrRange {
				t.Errorf("Lerp(%d, %d, %d, %d) = %d, %v", ends[0], ends[1], c[0], c[1], got, e)
			}
		}
		if got, e := Part(c[0], c[1]); got != 0 || e != api.ErrRange {
			t.Errorf("Part(%d, %d) = %d, %v", c[0], c[1], got, e)
		}
	}
}

// P1.3: at num 0 a Lerp is a, at den b, and between it is between both.
func TestLerpIsBetween(t *testing.T) {
	dens := []int64{1, 2, 3, 65536, 1<<62 - 1, 1 << 62}
	eachPair(func(a, b int64) {
		for _, den := range dens {
			for _, num := range []int64{0, 1, den / 3, den / 2, den - 1, den} {
				got, e := Lerp(a, b, num, den)
				if e != api.OK || got < min(a, b) || got > max(a, b) || num == 0 && got != a || num == den && got != b {
					t.Errorf("Lerp(%d, %d, %d, %d) = %d, %v", a, b, num, den, got, e)
				}
			}
		}
	})
}

// P1.3: a Lerp rises with num, if b is above a: it never falls, and where there is room for it, each step is one up.
func TestLerpRises(t *testing.T) {
	for _, c := range [][2]int64{{0, 10}, {-3, 4}, {5, 6}, {-50, 50}, {least, greatest}, {least, 0}, {greatest - 100, greatest}} {
		const den = 100
		steep := new(big.Int).Sub(whole(c[1]), whole(c[0])).Cmp(whole(den)) >= 0
		last := c[0]
		for num := int64(1); num <= den; num++ {
			got, e := Lerp(c[0], c[1], num, den)
			if e != api.OK || got < last || steep && got == last {
				t.Errorf("Lerp(%d, %d, %d, %d) = %d, %v, behind %d", c[0], c[1], num, den, got, e, last)
			}
			last = got
		}
	}
}

// Way: whatever kind of int64 stops, it does at the same ends.
func TestStopOfOtherKinds(t *testing.T) {
	type place int64
	if got := stop[place](widen(greatest).plus(widen(1))); got != greatest {
		t.Error(got)
	}
	if got := stop[place](widen(least).minus(widen(1))); got != least {
		t.Error(got)
	}
	if got := stop[place](widen(-7)); got != -7 {
		t.Error(got)
	}
}
