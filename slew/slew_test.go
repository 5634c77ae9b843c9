package slew

import (
	"math"
	"math/big"
	"math/rand/v2"
	"sync"
	"testing"

	"afterimage/api"
)

const (
	greatest, least = math.MaxInt64, math.MinInt64
	tries           = 2000
)

// edges are readings, and places of a clock, near which something is cut, or stops.
func edges() []int64 {
	return []int64{
		least, least + 1, least + 2, -1 << 62, -api.MaxTime, -1 << 43, -1 << 20, -1000, -2, -1, 0, 1, 2, 3, 1000, 1<<20 - 1, 1 << 20, 1<<20 + 1,
		1<<42 - 1, 1 << 42, 1<<43 - 1, 1 << 43, 1<<43 + 1, api.MaxTime, 1<<62 - 1, 1 << 62, greatest - 2, greatest - 1, greatest,
	}
}

// noRatios are nums by dens that may not be.
func noRatios() [][2]int64 {
	var pairs [][2]int64
	for _, x := range []int64{least, least + 1, -api.MaxRatio, -2, -1, 0, api.MaxRatio + 1, 2 * api.MaxRatio, 1<<32 + 1, greatest - 1, greatest} {
		pairs = append(pairs, [2]int64{x, 1}, [2]int64{1, x}, [2]int64{x, x}, [2]int64{api.MaxRatio, x}, [2]int64{x, api.MaxRatio})
	}
	return pairs
}

// modelRoom is how far a clock may go on, by numbers of any length.
func modelRoom(advance, num, den int64) *big.Int {
	if advance < 0 {
		return big.NewInt(1)
	}
	x := new(big.Int).Mul(big.NewInt(advance), big.NewInt(num))
	// What is divided isn't below 0, so any cut is the floor.
	x.Quo(x, big.NewInt(den)).Add(x, big.NewInt(1))
	return lesser(x, greatest)
}

func lesser(x *big.Int, most int64) *big.Int {
	if x.Cmp(big.NewInt(most)) > 0 {
		return big.NewInt(most)
	}
	return x
}

// model is a clock as the chapter's sentences say it, by numbers of any length.
type model struct {
	num, den  int64
	begun     bool
	now, last int64
}

func (m *model) to(reading, want int64) int64 {
	if !m.begun {
		m.begun, m.now, m.last = true, want, reading
		return want
	}
	advance := int64(0)
	if reading > m.last {
		advance = lesser(new(big.Int).Sub(big.NewInt(reading), big.NewInt(m.last)), greatest).Int64()
		m.last = reading
	}
	far := new(big.Int).Sub(big.NewInt(want), big.NewInt(m.now))
	may := modelRoom(advance, m.num, m.den)
	switch {
	case far.Sign() < 0:
	case far.Cmp(may) <= 0:
		m.now = want
	default:
		m.now = lesser(may.Add(may, big.NewInt(m.now)), greatest).Int64()
	}
	return m.now
}

// someRatio is a ratio that may be: any, and ones of small numbers.
func someRatio(chance *rand.Rand) (int64, int64) {
	part := func() int64 {
		switch chance.IntN(4) {
		case 0:
			return 1
		case 1:
			return api.MaxRatio
		case 2:
			return 1 + chance.Int64N(9)
		}
		return 1 + chance.Int64N(api.MaxRatio)
	}
	return part(), part()
}

// someNumber is an edge, or a number of any size.
func someNumber(chance *rand.Rand) int64 {
	if chance.IntN(4) == 0 {
		return edges()[chance.IntN(len(edges()))]
	}
	return int64(chance.Uint64()) >> chance.IntN(64)
}

// made is a clock of a ratio that may be.
func made(t *testing.T, num, den int64) *Clock {
	t.Helper()
	c, e := New(num, den)
	if c == nil || e != api.OK {
		t.Fatalf("New(%d, %d) = %v, %v", num, den, c, e)
	}
	stands(t, c, 0, false, 0)
	return c
}

// stands holds how a clock stands. Twice, as asking changes nothing.
func stands(t *testing.T, c *Clock, now int64, begun bool, last int64) {
	t.Helper()
	for range 2 {
		x, ok := c.Now()
		if y := c.Last(); x != now || ok != begun || y != last {
			t.Fatalf("Now %d, %v, Last %d, want %d, %v, %d", x, ok, y, now, begun, last)
		}
	}
}

// step is a reading and where is wanted; and where the clock stands then, and its last reading.
type step struct {
	reading, want, now, last int64
}

// goes holds where a clock goes by each step.
func goes(t *testing.T, c *Clock, steps ...step) {
	t.Helper()
	for i, s := range steps {
		if x, e := c.To(s.reading, s.want); x != s.now || e != api.OK {
			t.Fatalf("%d: To(%d, %d) = %d, %v, want %d", i, s.reading, s.want, x, e, s.now)
		}
		stands(t, c, s.now, true, s.last)
	}
}

func roomIs(t *testing.T, advance, num, den, want int64) {
	t.Helper()
	if x, e := Room(advance, num, den); x != want || e != api.OK {
		t.Errorf("Room(%d, %d, %d) = %d, %v, want %d", advance, num, den, x, e, want)
	}
}

// P16.1: Room, where it can be told by hand.
func TestRoom(t *testing.T) {
	for _, c := range [][4]int64{
		{10, 3, 2, 16}, {0, 3, 2, 1}, {1, 3, 2, 2}, {2, 3, 2, 4}, {3, 3, 2, 5}, {1, 1, 1, 2}, {100, 1, 1, 101},
		// The floor, and 1 more.
		{1, 1, 2, 1}, {2, 1, 2, 2}, {3, 1, 2, 2}, {2, 1, 3, 1}, {3, 1, 3, 2}, {8, 2, 3, 6}, {1, api.MaxRatio - 1, api.MaxRatio, 1}, {1, api.MaxRatio, api.MaxRatio, 2},
		{api.MaxRatio - 1, 1, api.MaxRatio, 1}, {api.MaxRatio, 1, api.MaxRatio, 2}, {1, api.MaxRatio, 1, api.MaxRatio + 1}, {5, 7, 7, 6},
		// An advance below 0.
		{-1, 1, 1, 1}, {-1, 1, 2, 1}, {-1, api.MaxRatio, 1, 1}, {-10, 3, 2, 1}, {least, 1, 1, 1}, {least, api.MaxRatio, 1, 1}, {least, 1, api.MaxRatio, 1}, {least + 1, 3, 2, 1},
		// The greatest int64, and the last ones ahead of it.
		{greatest - 2, 1, 1, greatest - 1}, {greatest - 1, 1, 1, greatest}, {greatest, 1, 1, greatest},
		{1<<62 - 1, 2, 1, greatest}, {1<<62 - 2, 2, 1, greatest - 2}, {1 << 62, 2, 1, greatest}, {1<<62 - 1, 4, 2, greatest}, {1 << 62, 3, 2, 3<<61 + 1},
		{1<<43 - 1, api.MaxRatio, 1, 1<<63 - 1<<20 + 1}, {1 << 43, api.MaxRatio, 1, greatest}, {1<<43 + 1, api.MaxRatio, 1, greatest}, {1 << 44, api.MaxRatio, 1, greatest}, {1 << 44, api.MaxRatio, 2, greatest}, {1 << 44, api.MaxRatio, 3, 6148914691236517205 + 1},
		// The product is beyond 64 bits, but what is divided isn't.
		{greatest, api.MaxRatio, api.MaxRatio, greatest}, {greatest - 1, api.MaxRatio, api.MaxRatio, greatest}, {greatest - 2, api.MaxRatio, api.MaxRatio, greatest - 1},
		{greatest, 1, 2, 1 << 62}, {greatest, 1, api.MaxRatio, 1 << 43}, {greatest, api.MaxRatio - 1, api.MaxRatio, 1<<63 - 1<<43},
		{greatest, api.MaxRatio, 1, greatest}, {greatest, 2, 1, greatest}, {greatest, 3, 2, greatest}, {1 << 61, 1000, 1001, 2303539469743950002},
	} {
		roomIs(t, c[0], c[1], c[2], c[3])
	}
}

// P16.1: Room against the model; never less by a greater advance.
func TestRoomByModel(t *testing.T) {
	chance := rand.New(rand.NewPCG(16, 1))
	for range tries {
		num, den := someRatio(chance)
		was := int64(1)
		for _, advance := range edges() {
			roomIs(t, advance, num, den, modelRoom(advance, num, den).Int64())
			x, _ := Room(advance, num, den)
			if x < was {
				t.Fatalf("Room(%d, %d, %d) = %d, by less it was %d", advance, num, den, x, was)
			}
			was = x
		}
		for range 20 {
			advance := someNumber(chance)
			roomIs(t, advance, num, den, modelRoom(advance, num, den).Int64())
		}
	}
}

// P16.1: a ratio's ends, and what is beyond: 0 and nil beside the error, whatever the advance is.
func TestRatios(t *testing.T) {
	for _, p := range noRatios() {
		if c, e := New(p[0], p[1]); c != nil || e != api.ErrRange {
			t.Errorf("New(%d, %d) = %v, %v", p[0], p[1], c, e)
		}
		for _, advance := range edges() {
			if x, e := Room(advance, p[0], p[1]); x != 0 || e != api.ErrRange {
				t.Errorf("Room(%d, %d, %d) = %d, %v", advance, p[0], p[1], x, e)
			}
		}
	}
	for _, num := range []int64{1, 2, 3, 65536, api.MaxRatio - 1, api.MaxRatio} {
		for _, den := range []int64{1, 2, 3, 65536, api.MaxRatio - 1, api.MaxRatio} {
			c := made(t, num, den)
			roomIs(t, 0, num, den, 1)
			goes(t, c, step{5, 7, 7, 5}, step{5, 9, 8, 5}, step{5 + den, greatest, 8 + num + 1, 5 + den})
		}
	}
}

// The chapter's example.
func TestExample(t *testing.T) {
	roomIs(t, 10, 3, 2, 16)
	goes(t, made(t, 3, 2), step{0, 100, 100, 0}, step{10, 200, 116, 10}, step{5, 200, 117, 10}, step{20, 100, 117, 20})
}

// P16.2: the first time a clock stands where is wanted, and the reading is its last one, wherever both are.
func TestFirst(t *testing.T) {
	for _, reading := range edges() {
		for _, want := range edges() {
			for _, den := range []int64{1, api.MaxRatio} {
				goes(t, made(t, 1, den), step{reading, want, want, reading})
			}
		}
	}
}

// P16.2: where is wanted is reached as far as a clock may go, and no further; the second time isn't a first one.
func TestTo(t *testing.T) {
	goes(t, made(t, 3, 2),
		step{50, 100, 100, 50}, step{60, 116, 116, 60}, step{70, 133, 132, 70}, step{80, 147, 147, 80}, step{80, 147, 147, 80},
		step{90, 146, 147, 90}, step{91, 150, 149, 91}, step{92, 150, 150, 92}, step{93, 151, 151, 93}, step{94, least, 151, 94}, step{95, 0, 151, 95},
	)
	goes(t, made(t, 1, 3), step{0, 0, 0, 0}, step{2, 9, 1, 2}, step{5, 9, 3, 5}, step{7, 9, 4, 7}, step{37, 9, 9, 37})
	// The first time stands at 0: a clock's own 0 isn't one that isn't begun.
	goes(t, made(t, 1, 1), step{0, 0, 0, 0}, step{0, 50, 1, 0}, step{0, -50, 1, 0}, step{9, 50, 11, 9})
	goes(t, made(t, 1, 1), step{-20, -10, -10, -20}, step{-15, 0, -4, -15}, step{-12, -9, -4, -12}, step{-10, 0, -1, -10}, step{-10, 0, 0, -10})
}

// P16.2, P16.3: readings that stand still, or go back, let a clock go on by 1; the last one stays the greatest.
func TestReadingsBack(t *testing.T) {
	c := made(t, api.MaxRatio, 1)
	goes(t, c, step{100, 0, 0, 100})
	for i := range int64(50) {
		goes(t, c, step{100 - i*i, 1000, i + 1, 100})
	}
	goes(t, c,
		step{least, 1000, 51, 100}, step{0, 51, 51, 100}, step{99, 50, 51, 100}, step{100, 53, 52, 100},
		step{101, 2 * api.MaxRatio, 53 + api.MaxRatio, 101}, step{100, greatest, 54 + api.MaxRatio, 101},
	)
}

// P16.2: advances, and places, at int64's ends.
func TestEnds(t *testing.T) {
	goes(t, made(t, 1, 1), step{least, least, least, least}, step{greatest, greatest, -1, greatest}, step{greatest, greatest, 0, greatest}, step{0, greatest, 1, greatest})
	goes(t, made(t, 2, 1), step{least, least, least, least}, step{greatest, greatest, -1, greatest})
	goes(t, made(t, 1, 2), step{least, least, least, least}, step{greatest, greatest, least + 1<<62, greatest})
	goes(t, made(t, 1, 1), step{least, 0, 0, least}, step{-1, greatest, greatest, -1})
	goes(t, made(t, 1, 1), step{least, 0, 0, least}, step{-2, greatest, greatest, -2}, step{least, least, greatest, -2})
	goes(t, made(t, 1, 1), step{least, 0, 0, least}, step{-3, greatest, greatest - 1, -3}, step{-3, greatest, greatest, -3}, step{-3, greatest, greatest, -3})
	goes(t, made(t, api.MaxRatio, 1), step{0, greatest - 5, greatest - 5, 0}, step{0, greatest, greatest - 4, 0}, step{1, greatest, greatest, 1}, step{greatest, greatest, greatest, greatest}, step{0, least, greatest, greatest})
	goes(t, made(t, 1, 1), step{greatest, greatest, greatest, greatest}, step{least, greatest, greatest, greatest}, step{greatest, least, greatest, greatest})
	goes(t, made(t, 1, 1), step{greatest, least, least, greatest}, step{greatest, least, least, greatest}, step{least, greatest, least + 1, greatest}, step{greatest, 0, least + 2, greatest})
}

// P16.2, P16.3, P3: clocks by readings and wishes of any kind, against the model.
func TestModel(t *testing.T) {
	chance := rand.New(rand.NewPCG(16, 2))
	for range tries {
		num, den := someRatio(chance)
		c, m := made(t, num, den), &model{num: num, den: den}
		for range chance.IntN(40) {
			reading, want := someNumber(chance), someNumber(chance)
			if m.begun && chance.IntN(3) > 0 {
				// Near to what was: what is cut by a little is seen only there.
				reading = m.last + chance.Int64N(40) - 10
				want = m.now + chance.Int64N(80) - 20
			}
			goes(t, c, step{reading, want, m.to(reading, want), m.last})
		}
	}
}

// P16.3, P3: a clock never goes back, nor on by more than Room lets it by how far the readings went on in all, and 1 of each step; what isn't too far is reached.
func TestNeverTooFast(t *testing.T) {
	chance := rand.New(rand.NewPCG(16, 3))
	for range tries {
		num, den := someRatio(chance)
		c := made(t, num, den)
		reading, want := chance.Int64N(1000)-500, chance.Int64N(1000)-500
		c.To(reading, want)
		for range 30 {
			now, _ := c.Now()
			last := c.Last()
			reading, want = last+chance.Int64N(100)-30, now+chance.Int64N(300)-100
			most, _ := Room(max(reading-last, 0), num, den)
			x, e := c.To(reading, want)
			if e != api.OK || x < now || x-now > most {
				t.Fatalf("%d by %d: from %d to %d, %v; it may by %d", num, den, now, x, e, most)
			}
			if reading <= last && x-now > 1 {
				t.Fatalf("from %d to %d, and the readings didn't go on", now, x)
			}
			if want >= now && want-now <= most && x != want {
				t.Fatalf("from %d to %d, where %d was wanted; it may by %d", now, x, want, most)
			}
		}
	}
}

// The bracket below the functions: a nil clock, before and after it was asked to go.
func TestNil(t *testing.T) {
	var c *Clock
	stands(t, c, 0, false, 0)
	for _, x := range edges() {
		if now, e := c.To(x, -x); now != 0 || e != api.ErrNil {
			t.Errorf("To(%d, %d) = %d, %v", x, -x, now, e)
		}
		stands(t, c, 0, false, 0)
	}
}

// P2: two clocks have nothing to do with one another, also of the same ratio.
func TestApart(t *testing.T) {
	one, two, three := made(t, 3, 2), made(t, 3, 2), made(t, 1, 1)
	goes(t, one, step{0, 100, 100, 0}, step{10, 200, 116, 10})
	stands(t, two, 0, false, 0)
	stands(t, three, 0, false, 0)
	goes(t, two, step{-5, 7, 7, -5}, step{10, 200, 30, 10})
	goes(t, three, step{1000, -1, -1, 1000}, step{1010, 50, 10, 1010})
	goes(t, one, step{20, 200, 132, 20})
	stands(t, two, 30, true, 10)
	stands(t, three, 10, true, 1010)
	stands(t, made(t, 3, 2), 0, false, 0)
}

// Rule 6: clocks, each used by one goroutine, may be made and used by many at a time.
func TestManyAtATime(t *testing.T) {
	var group sync.WaitGroup
	for i := range int64(50) {
		group.Go(func() {
			c, e := New(i+1, 1)
			for n := range int64(250) {
				c.To(n, n*1000)
				Room(n, 3, 2)
			}
			now, ok := c.Now()
			if want := 249 * (i + 2); e != api.OK || now != want || !ok || c.Last() != 249 {
				t.Errorf("%d by 1: %v, %d, %v, %d, want %d", i+1, e, now, ok, c.Last(), want)
			}
		})
	}
	group.Wait()
}
