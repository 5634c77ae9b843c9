package curve

import (
	"math"
	"math/big"
	"math/rand/v2"
	"testing"

	"afterimage/api"
)

const (
	greatest, least = math.MaxInt64, math.MinInt64
	mostParts       = 1 << 62
	tries           = 50000
)

func edges() []int64 {
	return []int64{least, least + 1, -mostParts, -1 << 40, -65537, -65536, -65535, -2, -1, 0, 1, 2, 3, 65535, 65536, 65537, 1 << 40, mostParts, greatest - 1, greatest}
}

// numbers is a row of numbers of any size, edges among them, the same one at each run.
func numbers() func() int64 {
	r := rand.New(rand.NewPCG(4, 5))
	return func() int64 {
		if r.IntN(4) == 0 {
			return edges()[r.IntN(len(edges()))]
		}
		return int64(r.Uint64()) >> r.IntN(64)
	}
}

// parts is a row of nums and dens that are a part.
func parts(next func() int64) (num, den int64) {
	for {
		den, num = next()&greatest, next()&greatest
		if den >= 1 && den <= mostParts {
			return num % (den + 1), den
		}
	}
}

// The model: layer 1's words, over numbers without an end.

func wide(x int64) *big.Int { return big.NewInt(x) }

func stopped(x *big.Int) int64 {
	switch {
	case x.IsInt64():
		return x.Int64()
	case x.Sign() < 0:
		return least
	}
	return greatest
}

func sum(a, b int64) int64  { return stopped(new(big.Int).Add(wide(a), wide(b))) }
func less(a, b int64) int64 { return stopped(new(big.Int).Sub(wide(a), wide(b))) }

// floor is a times b divided by den, which is above 0: big's Div goes down then.
func floor(a, b, den int64) int64 {
	x := new(big.Int).Mul(wide(a), wide(b))
	return stopped(x.Div(x, wide(den)))
}

func times(a, b int64) int64 { return floor(a, b, 65536) }

func weightsOf(u int64) [3]int64 {
	u2 := times(u, u)
	u3 := times(u2, u)
	return [3]int64{3*u2 - 2*u3, u3 - 2*u2 + u, u3 - u2}
}

func numberAt(a, v, b, w, num, den int64) int64 {
	if num == 0 {
		return a
	}
	if num == den {
		return b
	}
	by := weightsOf(floor(num, 65536, den))
	x := sum(a, times(by[0], less(b, a)))
	x = sum(x, times(by[1], times(v, den)))
	x = sum(x, times(by[2], times(w, den)))
	return min(max(x, min(a, b)), max(a, b))
}

// wrongParts are nums and dens of which layer 1's Part tells ErrRange.
func wrongParts() [][2]int64 {
	return [][2]int64{
		{5, 4}, {-1, 4}, {0, 0}, {1, 0}, {0, -1}, {-1, -1}, {-2, -1}, {least, 4}, {greatest, 4},
		{0, mostParts + 1}, {mostParts + 1, mostParts + 1}, {1, greatest}, {1, least}, {least, least}, {greatest, greatest},
	}
}

// P4.1: the weights at the document's parts.
func TestWeights(t *testing.T) {
	for _, c := range []struct {
		u    int64
		want [3]int64
	}{
		{0, [3]int64{0, 0, 0}}, {65536, [3]int64{65536, 0, 0}}, {32768, [3]int64{32768, 8192, -8192}},
		{16384, [3]int64{10240, 9216, -3072}}, {49152, [3]int64{55296, 3072, -9216}},
		{1, [3]int64{0, 1, 0}}, {255, [3]int64{0, 255, 0}}, {256, [3]int64{3, 254, -1}},
		{65535, [3]int64{65536, 0, -1}},
	} {
		way, first, last, e := Weights(c.u)
		if got := [3]int64{way, first, last}; got != c.want || e != api.OK {
			t.Errorf("Weights(%d) = %v, %v, want %v", c.u, got, e, c.want)
		}
	}
}

// P4.1, P4.2: every part there is, against the model, and on the right side of 0 and One.
func TestAllWeights(t *testing.T) {
	for u := range int64(api.One + 1) {
		way, first, last, e := Weights(u)
		if got, want := [3]int64{way, first, last}, weightsOf(u); got != want || e != api.OK {
			t.Fatalf("Weights(%d) = %v, %v, want %v", u, got, e, want)
		}
		if way < 0 || way > api.One || first < 0 || last > 0 {
			t.Fatalf("Weights(%d) = %d, %d, %d", u, way, first, last)
		}
	}
}

// P4.1: what isn't a part has no weights.
func TestWeightsRefused(t *testing.T) {
	for _, u := range edges() {
		way, first, last, e := Weights(u)
		if out := u < 0 || u > 65536; out != (e == api.ErrRange) || !out && e != api.OK {
			t.Errorf("Weights(%d): %v", u, e)
		}
		if e != api.OK && (way != 0 || first != 0 || last != 0) {
			t.Errorf("Weights(%d) = %d, %d, %d beside %v", u, way, first, last, e)
		}
	}
}

// P4.1: At, by numbers worked out by hand.
func TestAt(t *testing.T) {
	for _, c := range []struct{ a, v, b, w, num, den, want int64 }{
		{0, 0, 65536, 0, 1, 4, 10240}, {0, 0, 65536, 0, 3, 4, 55296}, {65536, 0, 0, 0, 1, 4, 55296},
		{-65536, 0, 65536, 0, 1, 2, 0},
		// The time is the den: half way, an eighth of what each speed leads to in all of it counts.
		{0, 16 * 65536, 1 << 20, 0, 1, 2, 1<<19 + 4}, {0, 2 * 65536, 1 << 20, 0, 1 << 15, 1 << 16, 1<<19 + 8192*2},
		{0, 0, 1 << 20, 2 * 65536, 1 << 15, 1 << 16, 1<<19 - 8192*2},
		{0, 65536, 65536, 65536, 1 << 15, 1 << 16, 32768},
		// Kept between a and b, on both sides, both ways round.
		{0, -1 << 60, 65536, 0, 1, 2, 0}, {0, 1 << 60, 65536, 0, 1, 2, 65536}, {0, 0, 65536, 1 << 60, 1, 2, 0}, {0, 0, 65536, -1 << 60, 1, 2, 65536},
		{65536, -1 << 60, 0, 0, 1, 2, 0}, {65536, 1 << 60, 0, 0, 1, 2, 65536},
		{5, 1 << 50, 5, 1 << 50, 1, 3, 5}, {5, least, 5, greatest, mostParts - 1, mostParts, 5},
	} {
		if got, e := At(c.a, c.v, c.b, c.w, c.num, c.den); got != c.want || e != api.OK {
			t.Errorf("At(%d, %d, %d, %d, %d, %d) = %d, %v, want %d", c.a, c.v, c.b, c.w, c.num, c.den, got, e, c.want)
		}
	}
}

// P4.1: each sum and each product stops by itself, in the chapter's order.
func TestAtStops(t *testing.T) {
	// The way stops at the greatest int64: half of it isn't 0, but half of what it has stopped at.
	if got, e := At(least, 0, greatest, 0, 1, 2); got != least+(greatest-1)/2 || e != api.OK {
		t.Errorf("half of the whole way: %d, %v", got, e)
	}
	// Speed times time stops, too: an eighth of the greatest int64 comes, and, by the floor, 1 more goes.
	if got, e := At(greatest, greatest, least, greatest, 1<<61, 1<<62); got != 1<<62-2 || e != api.OK {
		t.Errorf("speeds that stop: %d, %v", got, e)
	}
	// The first speed's share stops the sum ahead of the last one's: what lay beyond isn't had back.
	if got, e := At(greatest-5, greatest, greatest, greatest, 1<<15, 1<<16); got != greatest-5 || e != api.OK {
		t.Errorf("a sum that stops at the greatest: %d, %v, want %d", got, e, int64(greatest-5))
	}
	if got, e := At(least, least, least+5, least, 1<<15, 1<<16); got != least+5 || e != api.OK {
		t.Errorf("a sum that stops at the least: %d, %v, want %d", got, e, int64(least+5))
	}
}

// P4.1: the ends are a and b, whatever the speeds; a part that is told as 0 isn't yet the end.
func TestAtEnds(t *testing.T) {
	next := numbers()
	for range tries {
		a, v, b, w := next(), next(), next(), next()
		_, den := parts(next)
		if got, e := At(a, v, b, w, 0, den); got != a || e != api.OK {
			t.Fatalf("At(%d, %d, %d, %d, 0, %d) = %d, %v", a, v, b, w, den, got, e)
		}
		if got, e := At(a, v, b, w, den, den); got != b || e != api.OK {
			t.Fatalf("At(%d, %d, %d, %d, %d, %d) = %d, %v", a, v, b, w, den, den, got, e)
		}
	}
	if got, e := At(7, greatest, 900, least, 1, 1<<17); got != 7 || e != api.OK {
		t.Errorf("nearly no part: %d, %v", got, e)
	}
}

// P4.1, P4.2: At, against the model, and between a and b.
func TestAtModel(t *testing.T) {
	next := numbers()
	for range 4 * tries {
		a, v, b, w := next(), next(), next(), next()
		num, den := parts(next)
		got, e := At(a, v, b, w, num, den)
		if want := numberAt(a, v, b, w, num, den); got != want || e != api.OK {
			t.Fatalf("At(%d, %d, %d, %d, %d, %d) = %d, %v, want %d", a, v, b, w, num, den, got, e, want)
		}
		if got < min(a, b) || got > max(a, b) {
			t.Fatalf("At(%d, %d, %d, %d, %d, %d) = %d", a, v, b, w, num, den, got)
		}
	}
}

// P4.1: small speeds and long ways, so that few numbers are kept by the ends.
func TestAtModelWithin(t *testing.T) {
	r := rand.New(rand.NewPCG(6, 7))
	within := 0
	for range 4 * tries {
		a, b := r.Int64N(1<<40)-1<<39, r.Int64N(1<<40)-1<<39
		v, w := r.Int64N(1<<36)-1<<35, r.Int64N(1<<36)-1<<35
		den := 1 + r.Int64N(1<<18)
		num := r.Int64N(den + 1)
		got, e := At(a, v, b, w, num, den)
		if want := numberAt(a, v, b, w, num, den); got != want || e != api.OK {
			t.Fatalf("At(%d, %d, %d, %d, %d, %d) = %d, %v, want %d", a, v, b, w, num, den, got, e, want)
		}
		if got != a && got != b {
			within++
		}
	}
	if within < tries {
		t.Errorf("only %d numbers were not at an end", within)
	}
}

// P4.1: Part's error, and 0.
func TestAtRefused(t *testing.T) {
	for _, p := range wrongParts() {
		if got, e := At(1, 2, 3, 4, p[0], p[1]); got != 0 || e != api.ErrRange {
			t.Errorf("At(1, 2, 3, 4, %d, %d) = %d, %v", p[0], p[1], got, e)
		}
	}
	for _, num := range edges() {
		for _, den := range edges() {
			wrong := num < 0 || num > den || den < 1 || den > mostParts
			if _, e := At(least, greatest, greatest, least, num, den); wrong != (e == api.ErrRange) || !wrong && e != api.OK {
				t.Errorf("At of %d, %d: %v", num, den, e)
			}
		}
	}
}

// P4.1: Vec is At of each number by itself.
func TestVec(t *testing.T) {
	got, e := Vec([3]int64{0, 65536, 7}, [3]int64{}, [3]int64{65536, 0, 7}, [3]int64{}, 1, 4)
	if got != [3]int64{10240, 55296, 7} || e != api.OK {
		t.Errorf("Vec = %v, %v", got, e)
	}
	next := numbers()
	three := func() [3]int64 { return [3]int64{next(), next(), next()} }
	for range tries {
		a, v, b, w := three(), three(), three(), three()
		num, den := parts(next)
		var want [3]int64
		for i := range want {
			want[i] = numberAt(a[i], v[i], b[i], w[i], num, den)
		}
		if got, e := Vec(a, v, b, w, num, den); got != want || e != api.OK {
			t.Fatalf("Vec(%v, %v, %v, %v, %d, %d) = %v, %v, want %v", a, v, b, w, num, den, got, e, want)
		}
	}
	for _, p := range wrongParts() {
		if got, e := Vec([3]int64{1, 2, 3}, [3]int64{4}, [3]int64{5, 6, 7}, [3]int64{8}, p[0], p[1]); got != [3]int64{} || e != api.ErrRange {
			t.Errorf("Vec of %d, %d = %v, %v", p[0], p[1], got, e)
		}
	}
}
