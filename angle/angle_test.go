package angle

import (
	"math"
	"math/big"
	"math/rand/v2"
	"testing"

	"afterimage/api"
	"afterimage/fix"
)

const (
	greatest, least = math.MaxInt64, math.MinInt64
	whole           = 65536 // a whole round
	tries           = 50000
)

// edges are angles where rounds end, and where one way is as long as the other.
func edges() []uint16 {
	return []uint16{0, 1, 2, 100, 16384, 32767, 32768, 32769, 49152, 65000, 65534, 65535}
}

func chance() *rand.Rand {
	return rand.New(rand.NewPCG(3, 4))
}

// angles is a row of angles, edges and others, the same one at each run.
func angles() func() uint16 {
	r := chance()
	return func() uint16 {
		if r.IntN(3) == 0 {
			return edges()[r.IntN(len(edges()))]
		}
		return uint16(r.UintN(whole))
	}
}

// way is the chapter's word: the one number from -32768 to 32767 that leads from a to b, whole rounds aside.
func way(a, b uint16) int {
	for _, rounds := range []int{-whole, 0, whole} {
		if by := int(b) - int(a) + rounds; -32768 <= by && by <= 32767 {
			return by
		}
	}
	panic("no way")
}

// turned is a turned by by, of numbers without an end.
func turned(a uint16, by int) uint16 {
	sum := new(big.Int).Add(big.NewInt(int64(a)), big.NewInt(int64(by)))
	return uint16(sum.Mod(sum, big.NewInt(whole)).Uint64()) // never below 0
}

// P3.1: Diff is the way.
func TestDiff(t *testing.T) {
	for _, c := range []struct {
		a, b uint16
		want int
	}{
		{65000, 100, 636}, {100, 65000, -636}, {0, 32768, -32768}, {32768, 0, -32768},
		{0, 0, 0}, {65535, 65535, 0}, {65535, 0, 1}, {0, 65535, -1},
		{0, 32767, 32767}, {0, 32769, -32767}, {32767, 0, -32767}, {32769, 0, 32767}, {40000, 7231, 32767}, {40000, 7232, -32768},
	} {
		if got := Diff(c.a, c.b); got != c.want {
			t.Errorf("Diff(%d, %d) = %d, want %d", c.a, c.b, got, c.want)
		}
	}
	for _, a := range edges() {
		for b := range whole {
			if got, want := Diff(a, uint16(b)), way(a, uint16(b)); got != want {
				t.Fatalf("Diff(%d, %d) = %d, want %d", a, b, got, want)
			}
		}
	}
}

// P3.1: Turn goes round and round, at every int.
func TestTurn(t *testing.T) {
	for _, c := range []struct {
		a    uint16
		by   int
		want uint16
	}{
		{0, 1, 1}, {65535, 1, 0}, {0, -1, 65535}, {5, 0, 5}, {5, whole, 5}, {5, -whole, 5}, {5, 7*whole + 3, 8}, {5, -7*whole - 6, 65535},
		{0, 32768, 32768}, {0, -32768, 32768}, {65535, 65535, 65534},
		{0, greatest, 65535}, {65535, greatest, 65534}, {0, least, 0}, {65535, least, 65535}, {1, least + 1, 2}, {3, 1 << 32, 3}, {3, 1<<32 + 5, 8},
	} {
		if got := Turn(c.a, c.by); got != c.want {
			t.Errorf("Turn(%d, %d) = %d, want %d", c.a, c.by, got, c.want)
		}
	}
	next, r := angles(), chance()
	for range tries {
		a, by := next(), int(r.Uint64())>>r.IntN(64)
		if got, want := Turn(a, by), turned(a, by); got != want {
			t.Fatalf("Turn(%d, %d) = %d, want %d", a, by, got, want)
		}
	}
}

// P3.1: Lerp is a turned by layer 1's Lerp of 0 and the way.
func TestLerp(t *testing.T) {
	for _, c := range []struct {
		a, b     uint16
		num, den int64
		want     uint16
	}{
		{65000, 100, 1, 2, 65318}, {65000, 100, 0, 2, 65000}, {65000, 100, 2, 2, 100},
		{0, 3, 1, 2, 1}, {3, 0, 1, 2, 1}, {0, 65535, 1, 2, 65535}, {65535, 0, 1, 2, 65535}, {0, 65535, 1, 1 << 62, 65535},
		{0, 32768, 1, 2, 49152}, {32768, 0, 1, 2, 16384}, {0, 32767, 1, 2, 16383}, {0, 32768, 1, 4, 57344},
		{7, 7, 1, 3, 7}, {10, 20, 1 << 61, 1 << 62, 15}, {10, 20, 1 << 62, 1 << 62, 20},
	} {
		if got, e := Lerp(c.a, c.b, c.num, c.den); got != c.want || e != api.OK {
			t.Errorf("Lerp(%d, %d, %d, %d) = %d, %v, want %d", c.a, c.b, c.num, c.den, got, e, c.want)
		}
	}
	next, r := angles(), chance()
	for range tries {
		a, b, den := next(), next(), 1+r.Int64()>>(1+r.IntN(62))
		num := r.Int64N(den + 1)
		gone, _ := fix.Lerp(0, int64(way(a, b)), num, den)
		if got, e := Lerp(a, b, num, den); got != turned(a, int(gone)) || e != api.OK {
			t.Fatalf("Lerp(%d, %d, %d, %d) = %d, %v, want %d", a, b, num, den, got, e, turned(a, int(gone)))
		}
	}
}

// P3.1: Lerp's error is layer 1's, and the angle beside it is 0.
func TestLerpRefuses(t *testing.T) {
	for _, c := range [][2]int64{
		{0, 0}, {1, 0}, {0, -1}, {-1, 1}, {2, 1}, {-1, -1}, {-2, -1}, {5, 4}, {0, 1<<62 + 1}, {1, greatest}, {greatest, greatest},
		{least, least}, {least, 1}, {greatest, 1}, {least, greatest}, {greatest, least}, {0, least},
	} {
		_, want := fix.Lerp(0, 0, c[0], c[1])
		for _, a := range edges() {
			if got, e := Lerp(a, 5, c[0], c[1]); got != 0 || e != api.ErrRange || e != want {
				t.Errorf("Lerp(%d, 5, %d, %d) = %d, %v", a, c[0], c[1], got, e)
			}
		}
	}
}

// P3.2: Between asks whether x is on the way.
func TestBetween(t *testing.T) {
	for _, c := range []struct {
		x, a, b uint16
		want    bool
	}{
		{0, 65000, 100, true}, {65000, 65000, 100, true}, {100, 65000, 100, true}, {64999, 65000, 100, false}, {101, 65000, 100, false},
		{0, 100, 65000, true}, {65000, 100, 65000, true}, {100, 100, 65000, true}, {64999, 100, 65000, false}, {101, 100, 65000, false},
		{32868, 65000, 100, false}, {32232, 65000, 100, false},
		{9, 9, 9, true}, {8, 9, 9, false}, {10, 9, 9, false}, {32777, 9, 9, false},
		{32768, 0, 32768, true}, {65535, 0, 32768, true}, {0, 0, 32768, true}, {1, 0, 32768, false}, {32767, 0, 32768, false},
		{1, 32768, 0, true}, {32767, 32768, 0, true}, {32769, 32768, 0, false}, {65535, 32768, 0, false},
		{32767, 0, 32767, true}, {1, 0, 32767, true}, {32768, 0, 32767, false}, {65535, 0, 32767, false},
	} {
		if got := Between(c.x, c.a, c.b); got != c.want {
			t.Errorf("Between(%d, %d, %d) = %t, want %t", c.x, c.a, c.b, got, c.want)
		}
	}
}

// P3.2: what is between is what a walk along the way, step by step, comes by, and nothing else.
func TestBetweenByWalking(t *testing.T) {
	next := angles()
	for range 40 {
		a, b := next(), next()
		step, passed := 1, map[uint16]bool{a: true}
		if way(a, b) < 0 {
			step = -1
		}
		for at := a; at != b; {
			at = turned(at, step)
			passed[at] = true
		}
		for x := range whole {
			if got := Between(uint16(x), a, b); got != passed[uint16(x)] {
				t.Fatalf("Between(%d, %d, %d) = %t", x, a, b, got)
			}
		}
	}
}

// P3.3: an angle turned by the way to another one is that; the way back is the other sign, but of 32768 apart.
func TestThereAndBack(t *testing.T) {
	check := func(a, b uint16) {
		there, back := Diff(a, b), Diff(b, a)
		if Turn(a, there) != b || Turn(b, back) != a {
			t.Fatalf("from %d to %d: %d leads to %d; and back: %d leads to %d", a, b, there, Turn(a, there), back, Turn(b, back))
		}
		if there == -32768 && back != -32768 || there != -32768 && back != -there {
			t.Fatalf("from %d to %d: %d; and back: %d", a, b, there, back)
		}
	}
	for _, a := range edges() {
		for b := range whole {
			check(a, uint16(b))
		}
	}
	next := angles()
	for range tries {
		a := next()
		check(a, next())
		check(a, a+32768)
	}
}

// P3.3: a Lerp is on the way, and at the ends of it the angles themselves.
func TestLerpIsOnTheWay(t *testing.T) {
	next, r := angles(), chance()
	for range tries {
		a, b, den := next(), next(), 1+r.Int64()>>(1+r.IntN(62))
		for _, num := range []int64{0, 1, r.Int64N(den + 1), den - 1, den} {
			at, e := Lerp(a, b, num, den)
			if e != api.OK || !Between(at, a, b) || num == 0 && at != a || num == den && at != b {
				t.Fatalf("Lerp(%d, %d, %d, %d) = %d, %v", a, b, num, den, at, e)
			}
		}
	}
}
