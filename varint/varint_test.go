package varint

import (
	"bytes"
	"math"
	"math/big"
	"math/rand/v2"
	"slices"
	"testing"

	"afterimage/api"
)

const tries = 200000

// edges are numbers at which there is one byte more, and their neighbours; and those at which int64s end.
func edges() []uint64 {
	list := []uint64{0, 1, 2, 300, math.MaxInt64, 1 << 63, 1<<63 + 1, math.MaxUint64 - 1, math.MaxUint64}
	for n := 7; n < 64; n += 7 {
		list = append(list, 1<<n-2, 1<<n-1, 1<<n, 1<<n+1)
	}
	return list
}

// numbers are the edges, and others of any size, the same ones at each run.
func numbers() []uint64 {
	r := rand.New(rand.NewPCG(5, 6))
	list := edges()
	for range tries {
		list = append(list, r.Uint64()>>r.IntN(64))
	}
	return list
}

// The model: the chapter's words, over numbers without an end.

func bytesOf(x uint64) []byte {
	var b []byte
	for x >= 128 {
		b = append(b, byte(x%128)+128)
		x /= 128
	}
	return append(b, byte(x))
}

// read is what Get is to answer: the number is worked out whole, and held against 2^64 then.
func read(b []byte) (uint64, int, api.Errno) {
	if len(b) == 0 {
		return 0, 0, api.ErrNone
	}
	looked := b[:min(len(b), 10)]
	last := slices.IndexFunc(looked, func(c byte) bool { return c < 128 })
	if last < 0 && len(b) < 10 {
		return 0, 0, api.ErrShort
	}
	if last < 0 {
		return 0, 0, api.ErrLong
	}
	whole := new(big.Int)
	for i := last; i >= 0; i-- {
		whole.Mul(whole, big.NewInt(128))
		whole.Add(whole, big.NewInt(int64(b[i]&127)))
	}
	if !whole.IsUint64() {
		return 0, 0, api.ErrLong
	}
	if b[last] == 0 && last > 0 {
		return 0, 0, api.ErrForm
	}
	return whole.Uint64(), last + 1, api.OK
}

// hold holds Get against the model, and what is got against what is put.
func hold(t *testing.T, b []byte) {
	t.Helper()
	before := slices.Clone(b)
	x, n, e := Get(b)
	if wantX, wantN, wantE := read(b); x != wantX || n != wantN || e != wantE {
		t.Fatalf("Get(%v) = %d, %d, %v, want %d, %d, %v", b, x, n, e, wantX, wantN, wantE)
	}
	if !bytes.Equal(b, before) {
		t.Fatalf("Get changed %v to %v", before, b)
	}
	if e == api.OK && !bytes.Equal(Put(x), b[:n]) {
		t.Fatalf("%v is %d, whose bytes are %v", b[:n], x, Put(x))
	}
}

// row is n bytes of c, and others behind them.
func row(n int, c byte, behind ...byte) []byte {
	return append(bytes.Repeat([]byte{c}, n), behind...)
}

// P5.1: Put, by bytes worked out by hand.
func TestPut(t *testing.T) {
	for _, c := range []struct {
		x    uint64
		want []byte
	}{
		{0, []byte{0}}, {1, []byte{1}}, {127, []byte{127}}, {128, []byte{128, 1}}, {129, []byte{129, 1}},
		{300, []byte{172, 2}}, {16383, []byte{255, 127}}, {16384, []byte{128, 128, 1}},
		{1<<56 - 1, row(7, 255, 127)}, {1 << 56, row(8, 128, 1)}, {1<<63 - 1, row(8, 255, 127)},
		{1 << 63, row(9, 128, 1)}, {math.MaxUint64, row(9, 255, 1)},
	} {
		if got := Put(c.x); !bytes.Equal(got, c.want) || Size(c.x) != len(c.want) {
			t.Errorf("Put(%d) = %v, Size %d, want %v", c.x, got, Size(c.x), c.want)
		}
	}
}

// P5.1, P5.3: Put and Size against the model; what is put is got, whatever stands behind it, and no piece of it is.
func TestPutIsGot(t *testing.T) {
	for _, x := range numbers() {
		b := Put(x)
		if !bytes.Equal(b, bytesOf(x)) || Size(x) != len(b) || len(b) < 1 || len(b) > 10 {
			t.Fatalf("Put(%d) = %v, Size %d, want %v", x, b, Size(x), bytesOf(x))
		}
		for _, behind := range [][]byte{nil, {0}, {127}, {128}, {255, 255}, row(12, 128)} {
			if got, n, e := Get(slices.Concat(b, behind)); got != x || n != len(b) || e != api.OK {
				t.Fatalf("Get of %v ahead of %v = %d, %d, %v, want %d", b, behind, got, n, e, x)
			}
		}
		for n := 1; n < len(b); n++ {
			if got, size, e := Get(b[:n]); got != 0 || size != 0 || e != api.ErrShort {
				t.Fatalf("Get(%v) = %d, %d, %v, want ErrShort", b[:n], got, size, e)
			}
		}
	}
}

// P5.1: each error of Get, with 0 and 0 beside it, and the edges between them.
func TestGetRefused(t *testing.T) {
	for _, c := range []struct {
		b    []byte
		want api.Errno
	}{
		{nil, api.ErrNone}, {[]byte{}, api.ErrNone},
		{[]byte{128}, api.ErrShort}, {[]byte{255, 255}, api.ErrShort}, {row(9, 128), api.ErrShort}, {row(9, 255), api.ErrShort},
		{row(10, 128), api.ErrLong}, {row(10, 255), api.ErrLong}, {row(10, 128, 0), api.ErrLong}, {row(10, 128, 1), api.ErrLong}, {row(20, 255), api.ErrLong},
		{row(9, 128, 2), api.ErrLong}, {row(9, 255, 2), api.ErrLong}, {row(9, 128, 3), api.ErrLong}, {row(9, 128, 64), api.ErrLong}, {row(9, 128, 126), api.ErrLong}, {row(9, 128, 127), api.ErrLong},
		{[]byte{128, 0}, api.ErrForm}, {[]byte{255, 0}, api.ErrForm}, {[]byte{255, 128, 0}, api.ErrForm}, {row(8, 255, 0), api.ErrForm}, {row(9, 128, 0), api.ErrForm}, {row(9, 255, 0), api.ErrForm},
		{[]byte{128, 0, 1}, api.ErrForm}, {row(9, 255, 0, 255), api.ErrForm}, {row(9, 128, 2, 0), api.ErrLong},
	} {
		if x, n, e := Get(c.b); x != 0 || n != 0 || e != c.want {
			t.Errorf("Get(%v) = %d, %d, %v, want %v", c.b, x, n, e, c.want)
		}
	}
}

// P5.1: 0 by itself is a number, and the tenth byte may be 1.
func TestGetTaken(t *testing.T) {
	for _, c := range []struct {
		b []byte
		x uint64
		n int
	}{
		{[]byte{0}, 0, 1}, {[]byte{0, 0}, 0, 1}, {[]byte{0, 128}, 0, 1}, {[]byte{127, 255}, 127, 1}, {[]byte{172, 2}, 300, 2}, {[]byte{172, 2, 0}, 300, 2},
		{row(8, 255, 127), 1<<63 - 1, 9}, {row(9, 128, 1), 1 << 63, 10}, {row(9, 255, 1), math.MaxUint64, 10}, {row(9, 255, 1, 255, 255), math.MaxUint64, 10},
	} {
		if x, n, e := Get(c.b); x != c.x || n != c.n || e != api.OK {
			t.Errorf("Get(%v) = %d, %d, %v, want %d, %d", c.b, x, n, e, c.x, c.n)
		}
	}
}

// P5.1, P5.3: all rows of up to two bytes, against the model; what is got has no other bytes than those that are put.
func TestGetAllShortRows(t *testing.T) {
	hold(t, nil)
	for first := range 256 {
		hold(t, []byte{byte(first)})
		for second := range 256 {
			hold(t, []byte{byte(first), byte(second)})
			for _, third := range []byte{0, 1, 2, 127, 128, 129, 255} {
				hold(t, []byte{byte(first), byte(second), third})
			}
		}
	}
}

// P5.1, P5.3: a tenth byte of every kind, behind nine of which each goes on.
func TestGetAllTenthBytes(t *testing.T) {
	for _, c := range []byte{128, 129, 192, 255} {
		for tenth := range 256 {
			hold(t, row(9, c, byte(tenth)))
			hold(t, row(9, c, byte(tenth), 0))
			hold(t, row(9, c, byte(tenth), 1))
		}
	}
}

// P5.1, P5.3: rows of any bytes, most of which go on, so that long ones are among them.
func TestGetModel(t *testing.T) {
	r := rand.New(rand.NewPCG(7, 8))
	seen := map[api.Errno]int{}
	for range tries {
		b := make([]byte, r.IntN(14))
		for i := range b {
			b[i] = byte(r.UintN(256))
			switch r.IntN(10) {
			case 0:
				b[i] %= 3
			case 1:
			default:
				b[i] |= 128
			}
		}
		hold(t, b)
		_, _, e := Get(b)
		seen[e]++
	}
	for _, e := range []api.Errno{api.OK, api.ErrNone, api.ErrShort, api.ErrLong, api.ErrForm} {
		if seen[e] < 100 {
			t.Errorf("%v was answered %d times only", e, seen[e])
		}
	}
}

// P5.1 and rule 4: what lies behind a list's length isn't read.
func TestGetStaysWithin(t *testing.T) {
	b := []byte{172, 2, 7}
	if x, n, e := Get(b[:0]); x != 0 || n != 0 || e != api.ErrNone {
		t.Errorf("Get of none of three = %d, %d, %v", x, n, e)
	}
	if x, n, e := Get(b[:1]); x != 0 || n != 0 || e != api.ErrShort {
		t.Errorf("Get of one of three = %d, %d, %v", x, n, e)
	}
	if x, n, e := Get(row(9, 128, 1)[:9]); x != 0 || n != 0 || e != api.ErrShort {
		t.Errorf("Get of nine of ten = %d, %d, %v", x, n, e)
	}
}

// Rule 4: no two answers of Put share memory, not even behind their lengths.
func TestPutIsNew(t *testing.T) {
	for _, x := range edges() {
		first, second := Put(x), Put(x)
		for i := range first[:cap(first)] {
			first[:cap(first)][i] = 85
		}
		if !bytes.Equal(second, bytesOf(x)) || !bytes.Equal(Put(x), bytesOf(x)) {
			t.Errorf("Put(%d) is %v when another answer was changed", x, second)
		}
	}
}

// P5.2: Zig and Zag, by numbers worked out by hand.
func TestZig(t *testing.T) {
	for _, c := range []struct {
		x    int64
		want uint64
	}{
		{0, 0}, {-1, 1}, {1, 2}, {-2, 3}, {2, 4}, {-64, 127}, {64, 128}, {-65, 129}, {65536, 131072}, {-65536, 131071},
		{1 << 62, 1 << 63}, {-1 << 62, 1<<63 - 1}, {1<<62 - 1, 1<<63 - 2}, {-1<<62 - 1, 1<<63 + 1},
		{math.MaxInt64 - 1, math.MaxUint64 - 3}, {math.MinInt64 + 1, math.MaxUint64 - 2},
		{math.MaxInt64, math.MaxUint64 - 1}, {math.MinInt64, math.MaxUint64},
	} {
		if Zig(c.x) != c.want || Zag(c.want) != c.x {
			t.Errorf("Zig(%d) = %d, want %d; Zag(%d) = %d", c.x, Zig(c.x), c.want, c.want, Zag(c.want))
		}
	}
}

// P5.2, P5.3: Zig against the chapter's words over numbers without an end; Zag is the other way about, of all uint64s.
func TestZigModel(t *testing.T) {
	for _, u := range numbers() {
		for _, x := range []int64{int64(u), -int64(u)} {
			want := new(big.Int).Abs(big.NewInt(x))
			want.Lsh(want, 1)
			if x < 0 {
				want.Sub(want, big.NewInt(1))
			}
			if got := Zig(x); !want.IsUint64() || got != want.Uint64() || Zag(got) != x {
				t.Fatalf("Zig(%d) = %d, want %v; Zag of it %d", x, got, want, Zag(got))
			}
		}
		if Zig(Zag(u)) != u {
			t.Fatalf("Zig(Zag(%d)) = %d", u, Zig(Zag(u)))
		}
	}
}
