package reader

import (
	"bytes"
	"math"
	"math/rand/v2"
	"slices"
	"sync"
	"testing"

	"afterimage/api"
	"afterimage/varint"
)

const tries = 50000

// row is n bytes of c, and others behind them.
func row(n int, c byte, behind ...byte) []byte {
	return append(bytes.Repeat([]byte{c}, n), behind...)
}

// stands holds how a reader of size bytes stands, by all that may be asked without taking anything; twice, as asking changes nothing.
func stands(t *testing.T, r *Reader, size, at int, e api.Errno) {
	t.Helper()
	done := e
	if e == api.OK && at < size {
		done = api.ErrLong
	}
	for range 2 {
		if r.Err() != e || r.At() != at || r.Left() != size-at || r.Done() != done {
			t.Fatalf("Err %v, At %d, Left %d, Done %v, want %v, %d, %d, %v", r.Err(), r.At(), r.Left(), r.Done(), e, at, size-at, done)
		}
	}
}

// stuck holds that a reader that has failed takes nothing, answers 0, and keeps its error.
func stuck(t *testing.T, r *Reader, size, at int, e api.Errno) {
	t.Helper()
	stands(t, r, size, at, e)
	r.Fail(api.ErrState)
	r.Fail(api.OK)
	if c, x, y, v := r.Byte(), r.Uint(math.MaxUint64), r.Int(), r.Vec(); c != 0 || x != 0 || y != 0 || v != [3]int64{} {
		t.Fatalf("behind %v: Byte %d, Uint %d, Int %d, Vec %v", e, c, x, y, v)
	}
	stands(t, r, size, at, e)
}

// P7.1, P7.2: the chapter's example.
func TestExample(t *testing.T) {
	for _, c := range []struct {
		most, want uint64
		at         int
		e          api.Errno
	}{{300, 300, 3, api.OK}, {299, 0, 1, api.ErrRange}} {
		r := New([]byte{5, 172, 2})
		if got := r.Byte(); got != 5 {
			t.Errorf("Byte = %d, want 5", got)
		}
		stands(t, r, 3, 1, api.OK)
		if got := r.Uint(c.most); got != c.want {
			t.Errorf("Uint(%d) = %d, want %d", c.most, got, c.want)
		}
		stands(t, r, 3, c.at, c.e)
	}
}

// P7.1: Byte takes bytes of every kind, one by one, up to the last one.
func TestByte(t *testing.T) {
	b := make([]byte, 256)
	for i := range b {
		b[i] = byte(255 - i)
	}
	r := New(b)
	for i, c := range b {
		stands(t, r, 256, i, api.OK)
		if got := r.Byte(); got != c {
			t.Fatalf("Byte %d = %d, want %d", i, got, c)
		}
	}
	stands(t, r, 256, 256, api.OK)
	if got := r.Byte(); got != 0 {
		t.Errorf("Byte of none = %d", got)
	}
	stuck(t, r, 256, 256, api.ErrShort)
}

// P7.1: where no byte is left, each call fails with ErrShort, at the beginning and at the end.
func TestNoneLeft(t *testing.T) {
	calls := []func(*Reader) bool{
		func(r *Reader) bool { return r.Byte() == 0 },
		func(r *Reader) bool { return r.Uint(0) == 0 },
		func(r *Reader) bool { return r.Uint(math.MaxUint64) == 0 },
		func(r *Reader) bool { return r.Int() == 0 },
		func(r *Reader) bool { return r.Vec() == [3]int64{} },
	}
	for i, call := range calls {
		for _, b := range [][]byte{nil, {}, {7}, {255, 7}} {
			r := New(b)
			for range b {
				r.Byte()
			}
			stands(t, r, len(b), len(b), api.OK)
			if !call(r) {
				t.Errorf("call %d of none isn't 0", i)
			}
			stuck(t, r, len(b), len(b), api.ErrShort)
		}
	}
}

// P7.1: Uint takes what is at most so much, and what is behind it plays no part.
func TestUint(t *testing.T) {
	for _, c := range []struct {
		b          []byte
		most, want uint64
		at         int
	}{
		{[]byte{0}, 0, 0, 1}, {[]byte{0, 0}, 0, 0, 1}, {[]byte{0}, math.MaxUint64, 0, 1}, {[]byte{1}, 1, 1, 1}, {[]byte{127, 128}, 127, 127, 1},
		{[]byte{172, 2}, 300, 300, 2}, {[]byte{172, 2, 128, 0}, 301, 300, 2}, {[]byte{255, 255, 3}, 65535, 65535, 3}, {row(4, 255, 15), api.MaxTick, api.MaxTick, 5},
		{row(8, 255, 127), math.MaxInt64, math.MaxInt64, 9}, {row(9, 128, 1), 1 << 63, 1 << 63, 10},
		{row(9, 255, 1), math.MaxUint64, math.MaxUint64, 10}, {row(9, 255, 1, 255), math.MaxUint64, math.MaxUint64, 10},
	} {
		r := New(c.b)
		if got := r.Uint(c.most); got != c.want {
			t.Errorf("Uint(%d) of %v = %d, want %d", c.most, c.b, got, c.want)
		}
		stands(t, r, len(c.b), c.at, api.OK)
	}
}

// P7.1: Uint fails with Get's errors, whatever the most is, and with ErrRange; nothing is taken, be it the first call or a later one.
func TestUintFails(t *testing.T) {
	for _, c := range []struct {
		b    []byte
		most uint64
		want api.Errno
	}{
		{nil, 0, api.ErrShort}, {[]byte{128}, 0, api.ErrShort}, {[]byte{128}, math.MaxUint64, api.ErrShort}, {row(9, 255), math.MaxUint64, api.ErrShort},
		{[]byte{128, 0}, 0, api.ErrForm}, {[]byte{128, 0}, math.MaxUint64, api.ErrForm}, {[]byte{255, 0, 1}, 0, api.ErrForm}, {row(9, 255, 0), math.MaxUint64, api.ErrForm},
		{row(9, 255, 2), 0, api.ErrLong}, {row(9, 255, 2), math.MaxUint64, api.ErrLong}, {row(10, 128), math.MaxUint64, api.ErrLong}, {row(10, 128, 0), 5, api.ErrLong},
		{[]byte{1}, 0, api.ErrRange}, {[]byte{172, 2}, 299, api.ErrRange}, {[]byte{172, 2, 9}, 0, api.ErrRange}, {[]byte{128, 128, 4}, 65535, api.ErrRange},
		{row(4, 128, 16), api.MaxTick, api.ErrRange}, {row(9, 128, 1), math.MaxInt64, api.ErrRange}, {row(9, 255, 1), math.MaxUint64 - 1, api.ErrRange},
	} {
		for ahead := range 3 {
			b := append(row(ahead, 3), c.b...)
			r := New(b)
			for range ahead {
				r.Byte()
			}
			if got := r.Uint(c.most); got != 0 {
				t.Errorf("Uint(%d) of %v = %d, want 0", c.most, c.b, got)
			}
			stuck(t, r, len(b), ahead, c.want)
		}
	}
}

// P7.1: Int, by numbers worked out by hand, up to both ends.
func TestInt(t *testing.T) {
	for _, c := range []struct {
		b    []byte
		want int64
	}{
		{[]byte{0}, 0}, {[]byte{1}, -1}, {[]byte{2}, 1}, {[]byte{3}, -2}, {[]byte{127}, -64}, {[]byte{128, 1}, 64}, {[]byte{172, 2}, 150}, {[]byte{173, 2}, -151},
		{row(1, 254, row(8, 255, 1)...), math.MaxInt64}, {row(9, 255, 1), math.MinInt64}, {row(1, 253, row(8, 255, 1)...), math.MinInt64 + 1},
		{row(9, 128, 1), 1 << 62}, {row(8, 255, 127), -1 << 62},
	} {
		b := append(slices.Clone(c.b), 0)
		r := New(b)
		if got := r.Int(); got != c.want {
			t.Errorf("Int of %v = %d, want %d", c.b, got, c.want)
		}
		stands(t, r, len(b), len(c.b), api.OK)
	}
}

// P7.1: Int fails with Get's errors.
func TestIntFails(t *testing.T) {
	for _, c := range []struct {
		b    []byte
		want api.Errno
	}{
		{nil, api.ErrShort}, {[]byte{129}, api.ErrShort}, {row(9, 255), api.ErrShort},
		{[]byte{129, 0}, api.ErrForm}, {row(9, 255, 2), api.ErrLong}, {row(11, 255), api.ErrLong},
	} {
		r := New(c.b)
		if got := r.Int(); got != 0 {
			t.Errorf("Int of %v = %d, want 0", c.b, got)
		}
		stuck(t, r, len(c.b), 0, c.want)
	}
}

// P7.1: Vec takes three numbers; those behind the one that fails are 0, those ahead of it are taken.
func TestVec(t *testing.T) {
	b := slices.Concat([]byte{1}, row(9, 255, 1), []byte{172, 2}, []byte{8})
	r := New(b)
	if got := r.Vec(); got != [3]int64{-1, math.MinInt64, 150} {
		t.Errorf("Vec = %v", got)
	}
	stands(t, r, len(b), len(b)-1, api.OK)
	for _, c := range []struct {
		b    []byte
		want [3]int64
		at   int
		e    api.Errno
	}{
		{nil, [3]int64{}, 0, api.ErrShort}, {[]byte{2}, [3]int64{1, 0, 0}, 1, api.ErrShort}, {[]byte{2, 4}, [3]int64{1, 2, 0}, 2, api.ErrShort},
		{[]byte{2, 4, 134}, [3]int64{1, 2, 0}, 2, api.ErrShort}, {[]byte{128, 0, 2, 4, 6}, [3]int64{}, 0, api.ErrForm}, {[]byte{2, 128, 0, 4, 6}, [3]int64{1, 0, 0}, 1, api.ErrForm},
		{[]byte{172, 2, 4, 128, 0, 6}, [3]int64{150, 2, 0}, 3, api.ErrForm}, {row(9, 255, 2, 2, 4), [3]int64{}, 0, api.ErrLong}, {append([]byte{3}, row(12, 200)...), [3]int64{-2, 0, 0}, 1, api.ErrLong},
	} {
		r := New(c.b)
		if got := r.Vec(); got != c.want {
			t.Errorf("Vec of %v = %v, want %v", c.b, got, c.want)
		}
		stuck(t, r, len(c.b), c.at, c.e)
	}
}

// P7.2: Fail lays any error down, but OK; the first one stays, be it the caller's or the reader's.
func TestFail(t *testing.T) {
	for _, e := range []api.Errno{api.ErrNil, api.ErrArg, api.ErrLong, api.ErrState, -1, 18, math.MaxInt, math.MinInt} {
		r := New([]byte{9, 1, 2})
		r.Fail(api.OK)
		if got := r.Byte(); got != 9 {
			t.Errorf("Byte behind Fail(OK) = %d, want 9", got)
		}
		stands(t, r, 3, 1, api.OK)
		r.Fail(e)
		r.Fail(api.ErrDup)
		stuck(t, r, 3, 1, e)
	}
	r := New(nil)
	r.Fail(api.OK)
	stands(t, r, 0, 0, api.OK)
	r.Fail(api.ErrKind)
	stuck(t, r, 0, 0, api.ErrKind)
	r = New([]byte{128})
	r.Int()
	r.Fail(api.ErrKind)
	stuck(t, r, 1, 0, api.ErrShort)
}

// P7.2: that bytes are left is told by Done alone: they may be taken then.
func TestDone(t *testing.T) {
	b := []byte{4, 3, 172, 2}
	r := New(b)
	for i, c := range b {
		if r.Done() != api.ErrLong || r.Err() != api.OK {
			t.Errorf("at %d: Done %v, Err %v", i, r.Done(), r.Err())
		}
		if got := r.Byte(); got != c {
			t.Errorf("Byte behind Done = %d, want %d", got, c)
		}
	}
	stands(t, r, 4, 4, api.OK)
}

// The bracket below the functions: a nil reader.
func TestNil(t *testing.T) {
	var r *Reader
	for range 2 {
		if c, x, y, v := r.Byte(), r.Uint(math.MaxUint64), r.Int(), r.Vec(); c != 0 || x != 0 || y != 0 || v != [3]int64{} {
			t.Errorf("of nil: Byte %d, Uint %d, Int %d, Vec %v", c, x, y, v)
		}
		if r.Err() != api.ErrNil || r.Done() != api.ErrNil || r.At() != 0 || r.Left() != 0 {
			t.Errorf("of nil: Err %v, Done %v, At %d, Left %d", r.Err(), r.Done(), r.At(), r.Left())
		}
		r.Fail(api.OK)
		r.Fail(api.ErrArg)
	}
}

// model is a reader by the chapter's words: it has all bytes, a place and an error.
type model struct {
	bytes []byte
	place int
	err   api.Errno
}

func (m *model) uint(most uint64) uint64 {
	if m.err != api.OK {
		return 0
	}
	x, n, e := varint.Get(m.bytes[m.place:])
	switch {
	case e == api.ErrNone:
		m.err = api.ErrShort
	case e != api.OK:
		m.err = e
	case x > most:
		m.err = api.ErrRange
	default:
		m.place += n
		return x
	}
	return 0
}

func (m *model) byte() byte {
	if m.err == api.OK && m.place == len(m.bytes) {
		m.err = api.ErrShort
	}
	if m.err != api.OK {
		return 0
	}
	m.place++
	return m.bytes[m.place-1]
}

func (m *model) int() int64 {
	return varint.Zag(m.uint(math.MaxUint64))
}

func (m *model) vec() [3]int64 {
	first := m.int()
	second := m.int()
	return [3]int64{first, second, m.int()}
}

// step makes one call of both, and is the bytes of what was taken by it, put again.
func step(t *testing.T, chance *rand.Rand, r *Reader, m *model) []byte {
	t.Helper()
	at := m.place
	var put []byte
	same := true
	switch chance.IntN(9) {
	case 0, 1:
		c := r.Byte()
		put, same = []byte{c}, c == m.byte()
	case 2, 3, 4:
		most := chance.Uint64() >> chance.IntN(64)
		if chance.IntN(2) == 0 {
			most = math.MaxUint64
		}
		x := r.Uint(most)
		put, same = varint.Put(x), x == m.uint(most)
	case 5, 6:
		x := r.Int()
		put, same = varint.Put(varint.Zig(x)), x == m.int()
	case 7:
		v := r.Vec()
		for _, x := range v {
			put = append(put, varint.Put(varint.Zig(x))...)
		}
		same = v == m.vec()
	case 8:
		e := api.Errno(max(0, chance.IntN(100)-80))
		r.Fail(e)
		if m.err == api.OK {
			m.err = e
		}
	}
	if !same {
		t.Fatalf("at %d of %v another number was taken, or none: %v", at, m.bytes, put)
	}
	return put[:min(len(put), m.place-at)]
}

// mixed are some bytes in which there are numbers of many sizes, and now and then what is none.
func mixed(chance *rand.Rand) []byte {
	var b []byte
	for range chance.IntN(12) {
		switch chance.IntN(8) {
		case 0:
			b = append(b, byte(chance.UintN(256)))
		case 1:
			b = append(b, row(chance.IntN(11), 255, byte(chance.IntN(3)))...)
		default:
			b = append(b, varint.Put(chance.Uint64()>>chance.IntN(64))...)
		}
	}
	return b[:len(b)-chance.IntN(min(2, len(b)+1))]
}

// P7.1, P7.2, P7.3: calls in any order, of bytes of any kind, against the model; what was taken is put again as the bytes up to the place.
func TestModel(t *testing.T) {
	chance := rand.New(rand.NewPCG(7, 8))
	seen := map[api.Errno]int{}
	for range tries {
		b := mixed(chance)
		before := slices.Clone(b)
		r, m := New(b), &model{bytes: before}
		var put []byte
		for range 8 {
			put = append(put, step(t, chance, r, m)...)
			stands(t, r, len(before), m.place, m.err)
			if !bytes.Equal(put, before[:r.At()]) {
				t.Fatalf("of %v %d were taken, which are put as %v", before, r.At(), put)
			}
		}
		if !bytes.Equal(b, before) {
			t.Fatalf("%v was changed to %v", before, b)
		}
		seen[r.Err()]++
	}
	for _, e := range []api.Errno{api.OK, api.ErrShort, api.ErrForm, api.ErrLong, api.ErrRange, api.ErrState} {
		if seen[e] < 100 {
			t.Errorf("%v came %d times only", e, seen[e])
		}
	}
}

// P7.3: what was put, number behind number, is taken whole; of each piece of it, all numbers that it has whole.
func TestPutIsTaken(t *testing.T) {
	chance := rand.New(rand.NewPCG(9, 10))
	for range tries / 100 {
		var b []byte
		var list []int64
		var ends []int
		for range chance.IntN(20) {
			x := int64(chance.Uint64()) >> chance.IntN(64)
			list = append(list, x)
			b = append(b, varint.Put(varint.Zig(x))...)
			ends = append(ends, len(b))
		}
		for n := range len(b) + 1 {
			r, at := New(b[:n]), 0
			for i := 0; i < len(list) && ends[i] <= n; i++ {
				if got := r.Int(); got != list[i] {
					t.Fatalf("number %d of %v = %d, want %d", i, b[:n], got, list[i])
				}
				at = ends[i]
			}
			stands(t, r, n, at, api.OK)
			if got := r.Int(); got != 0 {
				t.Fatalf("a piece of a number of %v = %d", b[:n], got)
			}
			stuck(t, r, n, at, api.ErrShort)
		}
	}
}

// Rule 4: what lies behind a list's length isn't read, nor is what lies ahead of it.
func TestStaysWithin(t *testing.T) {
	memory := []byte{128, 172, 2, 7, 1, 1}
	r := New(memory[1:2])
	if got := r.Uint(math.MaxUint64); got != 0 {
		t.Errorf("Uint of one of two = %d", got)
	}
	stuck(t, r, 1, 0, api.ErrShort)
	r = New(memory[1:4])
	if x, c := r.Uint(300), r.Byte(); x != 300 || c != 7 {
		t.Errorf("Uint %d, Byte %d, want 300, 7", x, c)
	}
	if got := r.Byte(); got != 0 {
		t.Errorf("Byte of what lies behind = %d", got)
	}
	stuck(t, r, 3, 3, api.ErrShort)
	if !bytes.Equal(memory, []byte{128, 172, 2, 7, 1, 1}) {
		t.Errorf("what was handed in is %v now", memory)
	}
}

// P2: two readers of the same bytes have nothing to do with one another.
func TestApart(t *testing.T) {
	b := []byte{5, 172, 2, 9}
	one, two := New(b), New(b)
	if one.Byte() != 5 || one.Uint(300) != 300 || two.Byte() != 5 {
		t.Error("two readers of the same bytes take others")
	}
	one.Fail(api.ErrDup)
	stands(t, two, 4, 1, api.OK)
	if got := two.Uint(299); got != 0 {
		t.Errorf("Uint(299) = %d", got)
	}
	stuck(t, one, 4, 3, api.ErrDup)
	stuck(t, two, 4, 1, api.ErrRange)
	stands(t, New(b), 4, 0, api.OK)
}

// Rule 6: readers, each used by one goroutine, may be made and used by many at a time.
func TestManyAtATime(t *testing.T) {
	b := slices.Concat(varint.Put(300), row(9, 255, 1), []byte{1, 2, 3, 77})
	var group sync.WaitGroup
	for range 100 {
		group.Go(func() {
			r := New(b)
			x, y, v, c := r.Uint(300), r.Int(), r.Vec(), r.Byte()
			if x != 300 || y != math.MinInt64 || v != [3]int64{-1, 1, -2} || c != 77 || r.Done() != api.OK {
				t.Errorf("Uint %d, Int %d, Vec %v, Byte %d, Done %v", x, y, v, c, r.Done())
			}
		})
	}
	group.Wait()
}
