package vec

import (
	"math"
	"math/big"
	"math/rand/v2"
	"testing"

	"afterimage/api"
	"afterimage/fix"
)

const greatest, least = math.MaxInt64, math.MinInt64

type vector = [3]int64

// numbers are those near which results stop, change their sign or are cut by the floor.
func numbers() []int64 {
	return []int64{least, least + 1, -1 << 62, -65537, -65536, -1, 0, 1, 2, 65535, 65536, 1 << 47, 1 << 62, greatest - 1, greatest}
}

// chance is a row of numbers, edges and others of all sizes, the same one at each run.
func chance() func() int64 {
	r := rand.New(rand.NewPCG(2, 3))
	return func() int64 {
		if r.IntN(2) == 0 {
			return numbers()[r.IntN(len(numbers()))]
		}
		return int64(r.Uint64()) >> r.IntN(64)
	}
}

func vectors() func() vector {
	next := chance()
	return func() vector { return vector{next(), next(), next()} }
}

const tries = 20000

// P2.1: Add, number by number.
func TestAdd(t *testing.T) {
	for _, c := range [][3]vector{
		{{1, -2, 3}, {10, 20, -30}, {11, 18, -27}},
		{{greatest, least, 5}, {1, -1, 0}, {greatest, least, 5}},
		{{least, greatest, 0}, {greatest, least, 0}, {-1, -1, 0}},
		{{}, {1, 2, 3}, {1, 2, 3}},
	} {
		if got := Add(c[0], c[1]); got != c[2] {
			t.Errorf("Add(%d, %d) = %d, want %d", c[0], c[1], got, c[2])
		}
	}
	next := vectors()
	for range tries {
		a, b := next(), next()
		want := vector{fix.Add(a[0], b[0]), fix.Add(a[1], b[1]), fix.Add(a[2], b[2])}
		if got := Add(a, b); got != want {
			t.Errorf("Add(%d, %d) = %d, want %d", a, b, got, want)
		}
	}
}

// P2.1: Sub, number by number.
func TestSub(t *testing.T) {
	for _, c := range [][3]vector{
		{{1, -2, 3}, {10, 20, -30}, {-9, -22, 33}},
		{{greatest, least, 0}, {-1, 1, least}, {greatest, least, greatest}},
		{{1, 2, 3}, {1, 2, 3}, {}},
	} {
		if got := Sub(c[0], c[1]); got != c[2] {
			t.Errorf("Sub(%d, %d) = %d, want %d", c[0], c[1], got, c[2])
		}
	}
	next := vectors()
	for range tries {
		a, b := next(), next()
		want := vector{fix.Sub(a[0], b[0]), fix.Sub(a[1], b[1]), fix.Sub(a[2], b[2])}
		if got := Sub(a, b); got != want {
			t.Errorf("Sub(%d, %d) = %d, want %d", a, b, got, want)
		}
	}
}

// P2.1: Scale is Mul of each number and k.
func TestScale(t *testing.T) {
	for _, c := range []struct {
		a    vector
		k    int64
		want vector
	}{
		{vector{1, -1, 65536}, 65536, vector{1, -1, 65536}},
		{vector{1, -1, 65536}, 1, vector{0, -1, 1}},
		{vector{98304, 2, -3}, -32768, vector{-49152, -1, 1}},
		{vector{greatest, least, 0}, 65537, vector{greatest, least, 0}},
		{vector{greatest, least, 7}, -131072, vector{least, greatest, -14}},
		{vector{greatest, least, 7}, 0, vector{}},
		{vector{least, 65536, -65536}, least, vector{greatest, least, greatest}},
	} {
		if got := Scale(c.a, c.k); got != c.want {
			t.Errorf("Scale(%d, %d) = %d, want %d", c.a, c.k, got, c.want)
		}
	}
	next, number := vectors(), chance()
	for range tries {
		a, k := next(), number()
		want := vector{fix.Mul(a[0], k), fix.Mul(a[1], k), fix.Mul(a[2], k)}
		if got := Scale(a, k); got != want {
			t.Errorf("Scale(%d, %d) = %d, want %d", a, k, got, want)
		}
	}
}

// P2.1: Clamp, number by number, whichever end is the lesser one.
func TestClamp(t *testing.T) {
	for _, c := range []struct{ x, a, b, want vector }{
		{vector{0, 5, 9}, vector{1, 1, 1}, vector{4, 7, 4}, vector{1, 5, 4}},
		{vector{0, 5, 9}, vector{4, 1, 4}, vector{1, 7, 1}, vector{1, 5, 4}},
		{vector{1, 7, 3}, vector{1, 7, 3}, vector{1, 7, 3}, vector{1, 7, 3}},
		{vector{1, 7, 3}, vector{2, 2, 2}, vector{2, 2, 2}, vector{2, 2, 2}},
		{vector{least, 0, greatest}, vector{-1, least, -1}, vector{1, greatest, 1}, vector{-1, 0, 1}},
	} {
		if got := Clamp(c.x, c.a, c.b); got != c.want {
			t.Errorf("Clamp(%d, %d, %d) = %d, want %d", c.x, c.a, c.b, got, c.want)
		}
	}
	next := vectors()
	for range tries {
		x, a, b := next(), next(), next()
		want := vector{fix.Clamp(x[0], a[0], b[0]), fix.Clamp(x[1], a[1], b[1]), fix.Clamp(x[2], a[2], b[2])}
		if got := Clamp(x, a, b); got != want {
			t.Errorf("Clamp(%d, %d, %d) = %d, want %d", x, a, b, got, want)
		}
	}
}

// P2.1: Lerp of each number.
func TestLerp(t *testing.T) {
	for _, c := range []struct {
		a, b     vector
		num, den int64
		want     vector
	}{
		{vector{0, 10, -10}, vector{10, 0, 10}, 1, 4, vector{2, 7, -5}},
		{vector{0, 10, 5}, vector{10, 0, 5}, 1, 3, vector{3, 6, 5}},
		{vector{1, 2, 3}, vector{4, 5, 6}, 0, 1, vector{1, 2, 3}},
		{vector{1, 2, 3}, vector{4, 5, 6}, 1 << 62, 1 << 62, vector{4, 5, 6}},
		{vector{least, greatest, 0}, vector{greatest, least, least}, 1, 2, vector{-1, -1, -1 << 62}},
	} {
		if got, e := Lerp(c.a, c.b, c.num, c.den); got != c.want || e != api.OK {
			t.Errorf("Lerp(%d, %d, %d, %d) = %d, %v, want %d", c.a, c.b, c.num, c.den, got, e, c.want)
		}
	}
	next, number := vectors(), chance()
	for range tries {
		a, b, num, den := next(), next(), number(), number()
		var want vector
		var wrong api.Errno
		for i := range want {
			want[i], wrong = fix.Lerp(a[i], b[i], num, den)
		}
		if got, e := Lerp(a, b, num, den); got != want || e != wrong {
			t.Errorf("Lerp(%d, %d, %d, %d) = %d, %v, want %d, %v", a, b, num, den, got, e, want, wrong)
		}
	}
}

// P2.1: a part that may not be; beside the error there is no vector.
func TestLerpOfNoPart(t *testing.T) {
	for _, c := range [][2]int64{
		{-1, 5}, {least, 5}, {6, 5}, {greatest, 1 << 62}, {0, 0}, {1, 0}, {0, -1}, {-1, -1}, {0, 1<<62 + 1}, {greatest, greatest}, {0, least},
	} {
		if got, e := Lerp(vector{1, 2, 3}, vector{4, least, greatest}, c[0], c[1]); got != (vector{}) || e != api.ErrRange {
			t.Errorf("Lerp at %d of %d = %d, %v", c[0], c[1], got, e)
		}
	}
}

// P2.1: Go is Add of place and Scale of speed and time.
func TestGo(t *testing.T) {
	for _, c := range []struct {
		place, speed vector
		time         int64
		want         vector
	}{
		{vector{}, vector{65536, 0, -1}, 2, vector{2, 0, -1}},
		{vector{5, 6, 7}, vector{65536, -65536, 131072}, 3, vector{8, 3, 13}},
		{vector{5, 6, 7}, vector{65536, -65536, 1}, -3, vector{2, 9, 6}},
		{vector{greatest, least, 0}, vector{65536, -65536, greatest}, greatest, vector{greatest, least, greatest}},
		// What is gone stops ahead of the sum.
		{vector{-5, 5, 0}, vector{greatest, least, 0}, 131072, vector{greatest - 5, least + 5, 0}},
	} {
		if got := Go(c.place, c.speed, c.time); got != c.want {
			t.Errorf("Go(%d, %d, %d) = %d, want %d", c.place, c.speed, c.time, got, c.want)
		}
	}
	next, number := vectors(), chance()
	for range tries {
		place, speed, time := next(), next(), number()
		if got, want := Go(place, speed, time), Add(place, Scale(speed, time)); got != want {
			t.Errorf("Go(%d, %d, %d) = %d, want %d", place, speed, time, got, want)
		}
	}
}

// P2.2: Between, with the ends among what is between, in each number.
func TestBetween(t *testing.T) {
	a, b := vector{0, 4, least}, vector{2, 0, greatest}
	for _, c := range []struct {
		x    vector
		want bool
	}{
		{vector{1, 2, 3}, true}, {a, true}, {b, true}, {vector{0, 0, least}, true}, {vector{2, 4, greatest}, true},
		{vector{-1, 2, 3}, false}, {vector{3, 2, 3}, false}, {vector{1, -1, 3}, false}, {vector{1, 5, 3}, false},
		{vector{least, 2, 3}, false}, {vector{1, greatest, 3}, false},
	} {
		if Between(c.x, a, b) != c.want || Between(c.x, b, a) != c.want {
			t.Errorf("Between(%d, %d, %d) isn't %v", c.x, a, b, c.want)
		}
	}
	if one := (vector{7, 7, 7}); !Between(one, one, one) || Between(vector{7, 7, 8}, one, one) || Between(vector{7, 7, 6}, one, one) {
		t.Error("between one and the same")
	}
}

// P2.2: Between, by the document's sentence.
func TestBetweenByModel(t *testing.T) {
	next := vectors()
	for range tries {
		x, a, b := next(), next(), next()
		want := true
		for i := range x {
			want = want && x[i] >= min(a[i], b[i]) && x[i] <= max(a[i], b[i])
		}
		if Between(x, a, b) != want {
			t.Errorf("Between(%d, %d, %d) isn't %v", x, a, b, want)
		}
	}
}

// P2.2: Near, where the distance is at the edge, and where it is more than any int64.
func TestNear(t *testing.T) {
	for _, c := range []struct {
		a, b vector
		d    int64
		want bool
	}{
		{vector{1, 2, 3}, vector{1, 2, 5}, 1, false}, {vector{1, 2, 3}, vector{1, 2, 5}, 2, true},
		{vector{}, vector{3, -3, 0}, 3, true}, {vector{}, vector{4, -3, 0}, 3, false}, {vector{}, vector{3, -4, 0}, 3, false}, {vector{}, vector{0, 0, -4}, 3, false},
		{vector{1, 2, 3}, vector{1, 2, 3}, 0, true}, {vector{1, 2, 3}, vector{1, 2, 4}, 0, false},
		{vector{}, vector{}, -1, false}, {vector{}, vector{}, least, false}, {vector{least, 0, 0}, vector{greatest, 0, 0}, -1, false},
		{vector{-1, 0, 0}, vector{greatest - 1, 0, 0}, greatest, true}, {vector{-1, 0, 0}, vector{greatest, 0, 0}, greatest, false},
		{vector{0, least, 0}, vector{0, -1, 0}, greatest, true}, {vector{0, least, 0}, vector{}, greatest, false},
		{vector{greatest, 0, 0}, vector{least, 0, 0}, greatest, false}, {vector{greatest, 0, 0}, vector{least, 0, 0}, 0, false},
	} {
		if Near(c.a, c.b, c.d) != c.want || Near(c.b, c.a, c.d) != c.want {
			t.Errorf("Near(%d, %d, %d) isn't %v", c.a, c.b, c.d, c.want)
		}
	}
}

// P2.2: Near, by exact numbers.
func TestNearByModel(t *testing.T) {
	next, number := vectors(), chance()
	for range tries {
		a, b, d := next(), next(), number()
		for i := range b { // else most of them are far apart
			if number()%2 == 0 {
				b[i] = fix.Add(a[i], fix.Sub(d, number()%2))
			}
		}
		want := d >= 0
		for i := range a {
			way := new(big.Int).Sub(big.NewInt(a[i]), big.NewInt(b[i]))
			want = want && way.CmpAbs(big.NewInt(d)) <= 0
		}
		if Near(a, b, d) != want {
			t.Errorf("Near(%d, %d, %d) isn't %v", a, b, d, want)
		}
	}
}

// P2.3: a Lerp and a Clamp are Between both.
func TestLerpAndClampAreBetween(t *testing.T) {
	next := vectors()
	for range tries {
		x, a, b := next(), next(), next()
		if got := Clamp(x, a, b); !Between(got, a, b) {
			t.Errorf("Clamp(%d, %d, %d) = %d", x, a, b, got)
		}
		for _, den := range []int64{1, 3, 1 << 62} {
			for _, num := range []int64{0, den / 3, den - 1, den} {
				if got, e := Lerp(a, b, num, den); e != api.OK || !Between(got, a, b) {
					t.Errorf("Lerp(%d, %d, %d, %d) = %d, %v", a, b, num, den, got, e)
				}
			}
		}
	}
}

// P2.3: what is gone in no time, or with no speed, is none.
func TestGoNowhere(t *testing.T) {
	next, number := vectors(), chance()
	for range tries {
		place, speed, time := next(), next(), number()
		if got := Go(place, speed, 0); got != place {
			t.Errorf("Go(%d, %d, 0) = %d", place, speed, got)
		}
		if got := Go(place, vector{}, time); got != place {
			t.Errorf("Go(%d, no speed, %d) = %d", place, time, got)
		}
	}
}
