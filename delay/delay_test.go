package delay

import (
	"math"
	"math/big"
	"math/rand/v2"
	"sync"
	"testing"

	"afterimage/api"
)

const (
	greatest, least = math.MaxInt64, math.MinInt64
	mostGain        = 1 << 36
	tries           = 2000
)

// example is the chapter's config.
func example() api.Config {
	return api.Config{Base: 10, Gain: 131072, Least: 5, Most: 100, Slack: 8}
}

// widest is the config whose numbers are all as great as they may be, but for Least.
func widest() api.Config {
	return api.Config{Base: api.MaxTime, Gain: mostGain, Most: api.MaxTime, Slack: api.MaxTime}
}

// edges are estimates near which what they ask for is cut, or stops.
func edges() []int64 {
	return []int64{
		least, least + 1, -1 << 62, -1 << 61, -65536, -1000, -2, -1, 0, 1, 2, 3, 44, 45, 46, 1000, 32767, 32768, 65535, 65536, 65537,
		1 << 25, 1<<27 - 1, 1 << 27, 1 << 36, 1 << 41, 1<<42 - 1, 1 << 42, 1<<43 - 1, 1 << 43, 1<<60 + 1, 1<<61 - 1, 1 << 61, 1<<61 + 1, 1 << 62, greatest - 1, greatest,
	}
}

// modelCheck is the promise's sentence.
func modelCheck(c api.Config) api.Errno {
	for _, x := range []int64{c.Base, c.Least, c.Most, c.Slack} {
		if x < 0 || x > 1<<61 {
			return api.ErrRange
		}
	}
	switch {
	case c.Gain < 0 || c.Gain > mostGain:
		return api.ErrRange
	case c.Least > c.Most:
		return api.ErrOrder
	}
	return api.OK
}

// modelTarget is what an estimate asks for, by numbers of any length; nothing stops on the way, as Most is less than where it would.
func modelTarget(c api.Config, jitter int64) int64 {
	seen := big.NewInt(jitter)
	if seen.Sign() < 0 {
		seen.SetInt64(0)
	}
	seen.Mul(seen, big.NewInt(c.Gain))
	// What is divided isn't below 0, so any cut is the floor.
	seen.Quo(seen, big.NewInt(65536))
	seen.Add(seen, big.NewInt(c.Base))
	if seen.Cmp(big.NewInt(c.Most)) > 0 {
		return c.Most
	}
	if seen.Cmp(big.NewInt(c.Least)) < 0 {
		return c.Least
	}
	return seen.Int64()
}

// upTo is a number from 0 to most, of any size.
func upTo(chance *rand.Rand, most int64) int64 {
	switch chance.IntN(8) {
	case 0:
		return 0
	case 1:
		return most
	}
	return chance.Int64N(most+1) >> chance.IntN(62)
}

// someConfig is a config whose numbers may be: wide ones, and ones of a few hundred.
func someConfig(chance *rand.Rand) api.Config {
	time, gain := int64(api.MaxTime), int64(mostGain)
	if chance.IntN(2) == 0 {
		time, gain = 500, 5*api.One
	}
	a, b := upTo(chance, time), upTo(chance, time)
	return api.Config{Base: upTo(chance, time), Gain: upTo(chance, gain), Least: min(a, b), Most: max(a, b), Slack: upTo(chance, time)}
}

func someJitter(chance *rand.Rand) int64 {
	switch chance.IntN(3) {
	case 0:
		return int64(chance.IntN(300)) - 50
	case 1:
		return edges()[chance.IntN(len(edges()))]
	}
	return int64(chance.Uint64()) >> chance.IntN(64)
}

// made is a delay of a config whose numbers may be.
func made(t *testing.T, c api.Config) *Delay {
	t.Helper()
	d, e := New(c)
	if d == nil || e != api.OK {
		t.Fatalf("New(%+v) = %v, %v", c, d, e)
	}
	return d
}

// stands holds how a delay stands. Twice, as asking changes nothing.
func stands(t *testing.T, d *Delay, now int64, changes int) {
	t.Helper()
	for range 2 {
		if x, n := d.Now(), d.Changes(); x != now || n != changes {
			t.Fatalf("Now %d, Changes %d, want %d, %d", x, n, now, changes)
		}
	}
}

// update holds what a delay is by an estimate.
func update(t *testing.T, d *Delay, jitter, want int64, changes int) {
	t.Helper()
	if x := d.Update(jitter); x != want {
		t.Fatalf("Update(%d) = %d, want %d", jitter, x, want)
	}
	stands(t, d, want, changes)
}

// judged holds what Check and New say of a config, and that Target is 0 if its numbers may not be.
func judged(t *testing.T, c api.Config, want api.Errno) {
	t.Helper()
	if e := Check(c); e != want {
		t.Errorf("Check(%+v) = %v, want %v", c, e, want)
	}
	d, e := New(c)
	if e != want || (d == nil) != (want != api.OK) {
		t.Errorf("New(%+v) = %v, %v, want %v", c, d, e, want)
	}
	for _, jitter := range edges() {
		target := int64(0)
		if want == api.OK {
			target = modelTarget(c, jitter)
		}
		if x := Target(c, jitter); x != target {
			t.Errorf("Target(%+v, %d) = %d, want %d", c, jitter, x, target)
		}
	}
}

// P15.1: each of the five numbers alone, from the least to the greatest that it may be, and beyond.
func TestCheckEach(t *testing.T) {
	for _, n := range []struct {
		name string
		most int64
		with func(x int64) api.Config
	}{
		{"Base", api.MaxTime, func(x int64) api.Config { return api.Config{Base: x} }},
		{"Least", api.MaxTime, func(x int64) api.Config { return api.Config{Least: x, Most: api.MaxTime} }},
		{"Most", api.MaxTime, func(x int64) api.Config { return api.Config{Most: x} }},
		{"Slack", api.MaxTime, func(x int64) api.Config { return api.Config{Slack: x} }},
		{"Gain", mostGain, func(x int64) api.Config { return api.Config{Gain: x} }},
	} {
		t.Run(n.name, func(t *testing.T) {
			for _, x := range []int64{0, 1, 65536, 1 << 30, n.most - 1, n.most} {
				judged(t, n.with(x), api.OK)
			}
			for _, x := range []int64{least, least + 1, -1 << 61, -65536, -1, n.most + 1, 2 * n.most, greatest - 1, greatest} {
				judged(t, n.with(x), api.ErrRange)
			}
		})
	}
}

// P15.1, Rule 1: a number that may not be goes ahead of Least above Most.
func TestCheckOrder(t *testing.T) {
	for _, c := range []struct {
		config api.Config
		want   api.Errno
	}{
		{api.Config{}, api.OK},
		{example(), api.OK},
		{widest(), api.OK},
		{api.Config{Least: 7, Most: 7}, api.OK},
		{api.Config{Least: api.MaxTime, Most: api.MaxTime}, api.OK},
		{api.Config{Least: 1}, api.ErrOrder},
		{api.Config{Least: 8, Most: 7}, api.ErrOrder},
		{api.Config{Least: api.MaxTime, Most: api.MaxTime - 1}, api.ErrOrder},
		{api.Config{Base: api.MaxTime, Gain: mostGain, Slack: api.MaxTime, Least: 1}, api.ErrOrder},
		{api.Config{Least: 8, Most: 7, Base: -1}, api.ErrRange},
		{api.Config{Least: 8, Most: 7, Gain: -1}, api.ErrRange},
		{api.Config{Least: 8, Most: 7, Slack: -1}, api.ErrRange},
		{api.Config{Least: 8, Most: 7, Gain: mostGain + 1}, api.ErrRange},
		{api.Config{Least: 8, Most: -1}, api.ErrRange},
		{api.Config{Least: api.MaxTime + 1, Most: 7}, api.ErrRange},
		{api.Config{Least: -1, Most: -2}, api.ErrRange},
		{api.Config{Least: greatest, Most: least}, api.ErrRange},
	} {
		judged(t, c.config, c.want)
	}
}

// P15.1: Check against the model, at numbers of which any may not be.
func TestCheckByModel(t *testing.T) {
	times := []int64{least, -1, 0, 1, 1 << 36, api.MaxTime, api.MaxTime + 1, greatest}
	gains := []int64{least, -1, 0, 1, mostGain, mostGain + 1, api.MaxTime, greatest}
	for _, from := range times {
		for _, to := range times {
			for _, base := range times {
				for _, slack := range times {
					for _, gain := range gains {
						c := api.Config{Base: base, Gain: gain, Least: from, Most: to, Slack: slack}
						if e, want := Check(c), modelCheck(c); e != want {
							t.Fatalf("Check(%+v) = %v, want %v", c, e, want)
						}
					}
				}
			}
		}
	}
}

// P15.1: what else a config has is for other layers.
func TestCheckLeavesOthers(t *testing.T) {
	for _, x := range []int64{least, -1, 1, greatest} {
		c := example()
		c.Ring, c.Window, c.Num, c.Den, c.Extrapolate, c.Curved = int(x), int(x), x, x, x, x > 0
		judged(t, c, api.OK)
		update(t, made(t, c), 5, 20, 1)
	}
}

// P15.1: Target, where it can be told by hand.
func TestTarget(t *testing.T) {
	few := api.Config{Base: 3, Gain: 98304, Least: 0, Most: 1000}
	wide := widest()
	wide.Base = 0
	for i, c := range []struct {
		config       api.Config
		jitter, want int64
	}{
		{example(), 0, 10}, {example(), 1, 12}, {example(), 4, 18}, {example(), 44, 98}, {example(), 45, 100}, {example(), 46, 100}, {example(), greatest, 100},
		// 1.5 of it: the floor.
		{few, 1, 4}, {few, 2, 6}, {few, 3, 7}, {few, 664, 999}, {few, 665, 1000}, {few, 666, 1000},
		// What is below 0 is 0.
		{few, -1, 3}, {few, -100, 3}, {few, least, 3}, {example(), -3, 10}, {example(), least, 10},
		// Least, where Base alone asks for less; Most, where it asks for more.
		{api.Config{Least: 30, Most: 40}, 9, 30}, {api.Config{Base: 50, Least: 30, Most: 40}, 0, 40}, {api.Config{Base: 50, Least: 30, Most: 40}, -9, 40},
		{api.Config{Gain: api.One, Least: 30, Most: 40}, 29, 30}, {api.Config{Gain: api.One, Least: 30, Most: 40}, 31, 31}, {api.Config{Gain: api.One, Least: 30, Most: 40}, 41, 40},
		{api.Config{Base: 7, Gain: 1, Most: 9}, 65535, 7}, {api.Config{Base: 7, Gain: 1, Most: 9}, 65536, 8}, {api.Config{Base: 7, Most: 9}, greatest, 7},
		// The greatest numbers: the product stops, and the sum does.
		{widest(), 0, api.MaxTime}, {widest(), greatest, api.MaxTime},
		{wide, 1, 1 << 20}, {wide, 1<<41 - 1, 1<<61 - 1<<20}, {wide, 1 << 41, api.MaxTime}, {wide, 1 << 43, api.MaxTime}, {wide, greatest, api.MaxTime}, {wide, -1, 0},
		{api.Config{Base: 1, Gain: api.One, Most: api.MaxTime}, 1<<61 - 2, 1<<61 - 1}, {api.Config{Base: 1, Gain: api.One, Most: api.MaxTime}, greatest, api.MaxTime},
		{api.Config{Base: -1, Most: 9}, 5, 0}, {api.Config{Base: 8, Least: 9, Most: 8}, 5, 0},
	} {
		if x := Target(c.config, c.jitter); x != c.want {
			t.Errorf("%d: Target(%+v, %d) = %d, want %d", i, c.config, c.jitter, x, c.want)
		}
	}
}

// P15.1: Target against the model: it is from Least to Most, and never less by a greater estimate.
func TestTargetByModel(t *testing.T) {
	chance := rand.New(rand.NewPCG(15, 1))
	for range tries {
		c := someConfig(chance)
		was := c.Least
		for _, jitter := range edges() {
			x, want := Target(c, jitter), modelTarget(c, jitter)
			if x != want || x < was || x > c.Most {
				t.Fatalf("Target(%+v, %d) = %d, want %d; by less it was %d", c, jitter, x, want, was)
			}
			was = x
		}
		for range 20 {
			jitter := someJitter(chance)
			if x, want := Target(c, jitter), modelTarget(c, jitter); x != want {
				t.Fatalf("Target(%+v, %d) = %d, want %d", c, jitter, x, want)
			}
		}
	}
}

// P15.1: a new delay is what 0 asks for.
func TestNew(t *testing.T) {
	for _, c := range []struct {
		config api.Config
		want   int64
	}{
		{api.Config{}, 0}, {example(), 10}, {widest(), api.MaxTime},
		{api.Config{Base: 3, Least: 5, Most: 100, Slack: 50}, 5}, {api.Config{Base: 101, Least: 5, Most: 100, Slack: 50}, 100},
	} {
		stands(t, made(t, c.config), c.want, 0)
	}
	chance := rand.New(rand.NewPCG(15, 2))
	for range tries {
		c := someConfig(chance)
		stands(t, made(t, c), modelTarget(c, 0), 0)
	}
}

// The chapter's example.
func TestExample(t *testing.T) {
	d := made(t, example())
	stands(t, d, 10, 0)
	update(t, d, 4, 10, 0)
	update(t, d, 5, 20, 1)
}

// P15.2: Slack away the delay stays, above and below; by one more it goes all the way.
func TestSlack(t *testing.T) {
	c := api.Config{Base: 100, Gain: api.One, Most: 1000, Slack: 50}
	d := made(t, c)
	for i, x := range []struct {
		jitter, want int64
		changes      int
	}{
		{50, 100, 0}, {51, 151, 1}, {0, 100, 2}, {50, 100, 2}, {100, 200, 3}, {50, 200, 3}, {51, 200, 3}, {150, 200, 3}, {49, 149, 4},
		{99, 149, 4}, {100, 200, 5}, {-1, 100, 6}, {899, 999, 7}, {greatest, 999, 7}, {849, 999, 7}, {848, 948, 8}, {898, 948, 8}, {greatest, 1000, 9}, {least, 100, 10},
	} {
		if n := d.Update(x.jitter); n != x.want || d.Now() != n || d.Changes() != x.changes {
			t.Fatalf("%d: Update(%d) = %d, Changes %d, want %d, %d", i, x.jitter, n, d.Changes(), x.want, x.changes)
		}
	}
}

// P15.2: with Slack 0 the delay is always what is asked for; an Update that asks for the same isn't counted.
func TestNoSlack(t *testing.T) {
	d := made(t, api.Config{Base: 1, Gain: api.One, Most: 9})
	for i, x := range []struct {
		jitter, want int64
		changes      int
	}{{0, 1, 0}, {-1, 1, 0}, {1, 2, 1}, {1, 2, 1}, {0, 1, 2}, {8, 9, 3}, {9, 9, 3}, {greatest, 9, 3}, {7, 8, 4}, {7, 8, 4}} {
		if n := d.Update(x.jitter); n != x.want || d.Now() != n || d.Changes() != x.changes {
			t.Fatalf("%d: Update(%d) = %d, Changes %d, want %d, %d", i, x.jitter, n, d.Changes(), x.want, x.changes)
		}
	}
}

// P15.2: from 0 to MaxTime at once, by a Slack that lets it go, and by one that doesn't.
func TestFarthest(t *testing.T) {
	c := widest()
	c.Base, c.Slack = 0, api.MaxTime-1
	d := made(t, c)
	for i := range 10 {
		update(t, d, greatest, api.MaxTime, 2*i+1)
		update(t, d, 1<<40, api.MaxTime, 2*i+1)
		update(t, d, least, 0, 2*i+2)
	}
	c.Slack = api.MaxTime
	d = made(t, c)
	for _, jitter := range edges() {
		update(t, d, jitter, 0, 0)
	}
}

// P15.2: estimates that go up slowly change the delay as seldom as Slack lets them.
func TestSteps(t *testing.T) {
	d := made(t, api.Config{Gain: api.One, Most: 1000, Slack: 9})
	for i := range int64(501) {
		update(t, d, i, i/10*10, int(i/10))
	}
}

// P15.2, P15.3: delays by estimates of any kind, against the model: from Least to Most, no more than Slack away from what was asked for last.
func TestModel(t *testing.T) {
	chance := rand.New(rand.NewPCG(15, 3))
	for range tries {
		c := someConfig(chance)
		d := made(t, c)
		now, changes := modelTarget(c, 0), 0
		for range chance.IntN(60) {
			jitter := someJitter(chance)
			asks := modelTarget(c, jitter)
			if asks > now+c.Slack || asks < now-c.Slack {
				now, changes = asks, changes+1
			}
			update(t, d, jitter, now, changes)
			if now < c.Least || now > c.Most || max(now-asks, asks-now) > c.Slack {
				t.Fatalf("%+v: %d by %d, that asks for %d", c, now, jitter, asks)
			}
		}
	}
}

// The bracket below the functions: a nil delay, before and after it was asked to update.
func TestNil(t *testing.T) {
	var d *Delay
	stands(t, d, 0, 0)
	for _, jitter := range edges() {
		update(t, d, jitter, 0, 0)
	}
}

// P2: two delays have nothing to do with one another, also of the same config; nor has a config, once they are made.
func TestApart(t *testing.T) {
	c := example()
	one, two := made(t, c), made(t, c)
	update(t, one, 5, 20, 1)
	stands(t, two, 10, 0)
	c.Base, c.Slack, c.Most = 90, 0, 95
	update(t, two, 4, 10, 0)
	update(t, two, 1000, 100, 1)
	stands(t, one, 20, 1)
	stands(t, made(t, c), 90, 0)
	stands(t, made(t, example()), 10, 0)
}

// Rule 6: delays, each used by one goroutine, may be made and used by many at a time.
func TestManyAtATime(t *testing.T) {
	var group sync.WaitGroup
	for i := range 50 {
		group.Go(func() {
			c := example()
			c.Base, c.Most = int64(i), 1000
			d, e := New(c)
			for range 250 {
				d.Update(0)
				d.Update(100)
				Target(c, 7)
			}
			if e != api.OK || d.Now() != c.Base+200 || d.Changes() != 499 {
				t.Errorf("of Base %d: %v, %d, %d", c.Base, e, d.Now(), d.Changes())
			}
		})
	}
	group.Wait()
}
