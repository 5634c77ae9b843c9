package jitter

import (
	"math"
	"math/big"
	"math/rand/v2"
	"sync"
	"testing"

	"afterimage/api"
)

const (
	greatest, least = math.MaxInt64, math.MinInt64
	tries           = 2000
)

// edges are numbers near which a step is cut, changes its sign, or comes to an end of int64.
func edges() []int64 {
	all := []int64{
		least, least + 1, least + 15, least + 16, -1 << 62, -1<<61 - 1, -1 << 32, -65536, -100,
		97, 159, 160, 161, 255, 256, 257, 65535, 65536, 1<<32 - 1, 1 << 32, 1<<59 - 1, 1 << 59, 1 << 61, 1<<61 + 1, 1<<62 - 1, 1 << 62,
		greatest - 32, greatest - 17, greatest - 16, greatest - 15, greatest - 1, greatest,
	}
	for x := int64(-34); x <= 34; x++ {
		all = append(all, x)
	}
	return all
}

// eachPair goes through all pairs of edges, and some more of all sizes, the same ones at each run.
func eachPair(f func(now, sample int64)) {
	for _, now := range edges() {
		for _, sample := range edges() {
			f(now, sample)
		}
	}
	chance := rand.New(rand.NewPCG(14, 1))
	for range 50000 {
		now := anySize(chance)
		f(now, anySize(chance))
		f(now, now+int64(chance.IntN(100))-50)
	}
}

func anySize(chance *rand.Rand) int64 {
	return int64(chance.Uint64()) >> chance.IntN(64)
}

// modelStep is the chapter's sentence, by numbers of any length.
func modelStep(now, sample int64) int64 {
	is, seen := big.NewInt(now), big.NewInt(sample)
	if is.Sign() < 0 {
		is.SetInt64(0)
	}
	if seen.Sign() < 0 {
		seen.SetInt64(0)
	}
	way := seen.Sub(seen, is)
	// big's Div is the floor where the divisor is above 0.
	return is.Add(is, way.Div(way, big.NewInt(16))).Int64()
}

// add holds that a sample is added.
func add(t *testing.T, j *Jitter, samples ...int64) {
	t.Helper()
	for _, x := range samples {
		if e := j.Add(x); e != api.OK {
			t.Fatalf("Add(%d) = %v", x, e)
		}
	}
}

// stands holds how an estimate stands. Twice, as asking changes nothing.
func stands(t *testing.T, j *Jitter, now int64, count int) {
	t.Helper()
	for range 2 {
		if x, n := j.Now(), j.Count(); x != now || n != count {
			t.Fatalf("Now %d, Count %d, want %d, %d", x, n, now, count)
		}
	}
}

// P14.1: Step, where its numbers can be told by hand.
func TestStep(t *testing.T) {
	for _, c := range []struct{ now, sample, want int64 }{
		{0, 160, 10}, {10, 0, 9}, {9, 9, 9},
		{0, 0, 0}, {0, 15, 0}, {0, 16, 1}, {0, 31, 1}, {0, 32, 2}, {100, 115, 100}, {100, 116, 101},
		{1, 0, 0}, {16, 0, 15}, {17, 0, 15}, {32, 0, 30}, {33, 0, 30}, {100, 99, 99}, {100, 84, 99}, {100, 83, 98}, {100, 0, 93},
		{greatest, greatest, greatest}, {0, greatest, 1<<59 - 1}, {1, greatest, 1 << 59}, {greatest, 0, greatest - 1<<59},
		{greatest, greatest - 1, greatest - 1}, {greatest, greatest - 16, greatest - 1}, {greatest, greatest - 17, greatest - 2},
		{greatest - 15, greatest, greatest - 15}, {greatest - 16, greatest, greatest - 15},
	} {
		if x := Step(c.now, c.sample); x != c.want {
			t.Errorf("Step(%d, %d) = %d, want %d", c.now, c.sample, x, c.want)
		}
	}
}

// P14.1: an estimate, or a sample, that is below 0 is taken as 0.
func TestStepBelowNothing(t *testing.T) {
	for _, below := range []int64{-1, -5, -15, -16, -17, -160, -1 << 61, -1 << 62, least + 1, least} {
		for _, c := range []struct{ now, sample, want int64 }{
			{below, 0, 0}, {below, 15, 0}, {below, 32, 2}, {below, 160, 10}, {below, greatest, 1<<59 - 1},
			{0, below, 0}, {1, below, 0}, {32, below, 30}, {greatest, below, greatest - 1<<59},
			{below, below, 0}, {below, -1, 0}, {-1, below, 0}, {below, least, 0}, {least, below, 0},
		} {
			if x := Step(c.now, c.sample); x != c.want {
				t.Errorf("Step(%d, %d) = %d, want %d", c.now, c.sample, x, c.want)
			}
		}
	}
}

// P14.1: Step against the model, at all edges.
func TestStepByModel(t *testing.T) {
	eachPair(func(now, sample int64) {
		if x, want := Step(now, sample), modelStep(now, sample); x != want {
			t.Errorf("Step(%d, %d) = %d, want %d", now, sample, x, want)
		}
	})
}

// P14.2: what an estimate becomes is between it and the sample; it stays only if the sample is it, or up to 15 above.
func TestStepIsBetween(t *testing.T) {
	eachPair(func(now, sample int64) {
		x := Step(now, sample)
		now, sample = max(now, 0), max(sample, 0)
		if x < min(now, sample) || x > max(now, sample) || x < 0 {
			t.Errorf("Step(%d, %d) = %d isn't between", now, sample, x)
		}
		if stays := sample >= now && sample-now <= 15; stays != (x == now) {
			t.Errorf("Step(%d, %d) = %d: it should stay: %v", now, sample, x, stays)
		}
	})
}

// P14.1: a new estimate.
func TestNew(t *testing.T) {
	j := New()
	if j == nil {
		t.Fatal("New() = nil")
	}
	stands(t, j, 0, 0)
}

// The chapter's example.
func TestExample(t *testing.T) {
	j := New()
	for i, c := range []struct{ sample, now int64 }{{160, 10}, {0, 9}, {9, 9}} {
		add(t, j, c.sample)
		stands(t, j, c.now, i+1)
	}
}

// P14.1: each sample is counted, also one that leaves the estimate, and one that is below 0.
func TestCount(t *testing.T) {
	j := New()
	for i, sample := range []int64{0, 0, -1, 15, least, 1, least, 0} {
		add(t, j, sample)
		stands(t, j, 0, i+1)
	}
	add(t, j, greatest)
	stands(t, j, 1<<59-1, 9)
	for i := range 1000 {
		add(t, j, j.Now())
		stands(t, j, 1<<59-1, i+10)
	}
}

// P14.1: samples at the ends of int64, turn by turn.
func TestEnds(t *testing.T) {
	j := New()
	var want int64
	for i := range 1000 {
		sample := int64(greatest)
		if i%2 == 1 {
			sample = least
		}
		want = modelStep(want, sample)
		add(t, j, sample)
		stands(t, j, want, i+1)
	}
}

// The bracket below the functions: a nil estimate, before and after it was asked to add.
func TestNil(t *testing.T) {
	var j *Jitter
	for _, sample := range []int64{0, 1, 160, -1, least, greatest} {
		stands(t, j, 0, 0)
		if e := j.Add(sample); e != api.ErrNil {
			t.Errorf("Add(%d) of nil = %v, want %v", sample, e, api.ErrNil)
		}
		stands(t, j, 0, 0)
	}
}

// P14.2: by samples that are the same an estimate comes nearer to these with each one: from above down to them, from below up to 15 below.
func TestSame(t *testing.T) {
	chance := rand.New(rand.NewPCG(14, 2))
	for range tries {
		j := New()
		for range chance.IntN(5) {
			add(t, j, anySize(chance))
		}
		sample := anySize(chance)
		seen := max(sample, 0)
		from := j.Now()
		for was := int64(-1); was != j.Now(); {
			was = j.Now()
			add(t, j, sample)
			now := j.Now()
			if now < min(was, seen) || now > max(was, seen) || now == was && (now > seen || seen-now > 15) {
				t.Fatalf("from %d by %d: %d became %d", from, sample, was, now)
			}
		}
		want := seen
		if from <= seen {
			want = max(from, seen-15)
		}
		if now := j.Now(); now != want {
			t.Fatalf("from %d by %d it stays at %d, want %d", from, sample, now, want)
		}
	}
}

// some is a sample: of any size, or near to where the estimate is.
func some(chance *rand.Rand, now int64) int64 {
	switch chance.IntN(4) {
	case 0:
		return now
	case 1:
		return now + int64(chance.IntN(80)) - 40
	case 2:
		return int64(chance.IntN(400)) - 100
	}
	return anySize(chance)
}

// P14.1, P14.2: estimates by samples of any kind, against the model: never below 0, nor above the greatest sample.
func TestModel(t *testing.T) {
	chance := rand.New(rand.NewPCG(14, 3))
	for range tries {
		j := New()
		var want, most int64
		for i := range chance.IntN(100) {
			sample := some(chance, want)
			leaves := sample == want
			was := want
			want, most = modelStep(want, sample), max(most, sample)
			add(t, j, sample)
			stands(t, j, want, i+1)
			if want < 0 || want > most || leaves && want != was {
				t.Fatalf("%d became %d by %d; the greatest sample was %d", was, want, sample, most)
			}
		}
	}
}

// P2: two estimates have nothing to do with one another.
func TestApart(t *testing.T) {
	one, two := New(), New()
	add(t, one, 160, 0)
	stands(t, two, 0, 0)
	add(t, two, 1600)
	stands(t, one, 9, 2)
	stands(t, two, 100, 1)
	stands(t, New(), 0, 0)
}

// Rule 6: estimates, each used by one goroutine, may be made and used by many at a time.
func TestManyAtATime(t *testing.T) {
	var group sync.WaitGroup
	for i := range 50 {
		group.Go(func() {
			j := New()
			sample := int64(1000 + i)
			for range 500 {
				j.Add(sample)
				Step(sample, j.Now())
			}
			if j.Now() != sample-15 || j.Count() != 500 {
				t.Errorf("by %d: %d, %d", sample, j.Now(), j.Count())
			}
		})
	}
	group.Wait()
}
