package record

import (
	"bytes"
	"math"
	"math/rand/v2"
	"slices"
	"sync"
	"testing"

	"afterimage/api"
	"afterimage/reader"
	"afterimage/varint"
)

const tries = 50000

type vec = [3]int64

// row is n bytes of c, and others behind them.
func row(n int, c byte, behind ...byte) []byte {
	return append(bytes.Repeat([]byte{c}, n), behind...)
}

// reads holds that a record is read off bytes, and that others behind them stay.
func reads(t *testing.T, b []byte, last int, want api.Record) {
	t.Helper()
	for _, behind := range [][]byte{nil, {0}, {255, 255}} {
		all := slices.Concat([]byte{9}, b, behind)
		from := reader.New(all)
		from.Byte()
		if r, e := Read(from, last); r != want || e != api.OK {
			t.Errorf("Read(%v, %d) = %v, %v, want %v", b, last, r, e, want)
		}
		if from.At() != len(b)+1 || from.Err() != api.OK {
			t.Errorf("behind Read(%v, %d): At %d, Err %v", b, last, from.At(), from.Err())
		}
	}
}

// fails holds that no record is read off bytes, that so many are taken, and that the reader has failed.
func fails(t *testing.T, b []byte, last, at int, want api.Errno) {
	t.Helper()
	from := reader.New(b)
	if r, e := Read(from, last); r != (api.Record{}) || e != want {
		t.Errorf("Read(%v, %d) = %v, %v, want none, %v", b, last, r, e, want)
	}
	for range 2 {
		if from.At() != at || from.Err() != want {
			t.Errorf("behind Read(%v, %d): At %d, Err %v, want %d, %v", b, last, from.At(), from.Err(), at, want)
		}
		if r, e := Read(from, -1); r != (api.Record{}) || e != want {
			t.Errorf("Read of a reader that failed = %v, %v, want none, %v", r, e, want)
		}
	}
}

// P8.1, P8.2: the chapter's examples, and others worked out by hand: what is written is read.
func TestBytes(t *testing.T) {
	least := row(9, 255, 1)
	most := row(1, 254, row(8, 255, 1)...)
	for _, c := range []struct {
		r    api.Record
		last int
		want []byte
	}{
		{api.Record{Kind: api.Update, Id: 5, Pos: vec{1, 0, 0}}, 3, []byte{1, 1, 1, 2}},
		{api.Record{Kind: api.Remove, Id: 5}, 4, []byte{0, 2}},
		{api.Record{Kind: api.Remove, Id: 0}, -1, []byte{0, 2}},
		{api.Record{Kind: api.Remove, Id: 127}, -1, []byte{127, 2}},
		{api.Record{Kind: api.Remove, Id: 128}, -1, []byte{128, 1, 2}},
		{api.Record{Kind: api.Remove, Id: 128}, 0, []byte{127, 2}},
		{api.Record{Kind: api.Remove, Id: api.MaxId}, -1, []byte{255, 255, 3, 2}},
		{api.Record{Kind: api.Remove, Id: api.MaxId}, 0, []byte{254, 255, 3, 2}},
		{api.Record{Kind: api.Remove, Id: api.MaxId}, api.MaxId - 1, []byte{0, 2}},
		{api.Record{Kind: api.Remove, Id: api.MaxId - 1}, api.MaxId - 2, []byte{0, 2}},
		{api.Record{Kind: api.Put}, -1, row(9, 0)},
		{api.Record{Kind: api.Teleport, Id: 300}, -1, append([]byte{172, 2, 3}, row(7, 0)...)},
		{api.Record{Kind: api.Put, Id: 2, Pos: vec{1, -2, 3}, Vel: vec{-4, 5, -64}, Angle: 127}, 0, []byte{1, 0, 2, 3, 6, 7, 10, 127, 127}},
		{api.Record{Kind: api.Teleport, Id: 2, Pos: vec{0, 64, 0}, Vel: vec{-65, 0, 0}, Angle: 128}, 1, []byte{0, 3, 0, 128, 1, 0, 129, 1, 0, 0, 128, 1}},
		{api.Record{Kind: api.Put, Id: 1, Pos: vec{math.MinInt64, 0, math.MaxInt64}, Angle: 65535}, 0, slices.Concat([]byte{0, 0}, least, []byte{0}, most, []byte{0, 0, 0, 255, 255, 3})},
		{api.Record{Kind: api.Teleport, Id: 1, Vel: vec{math.MaxInt64, 0, math.MinInt64}}, 0, slices.Concat([]byte{0, 3, 0, 0, 0}, most, []byte{0}, least, []byte{0})},
		{api.Record{Kind: api.Update, Id: 1, Pos: vec{math.MinInt64, 0, 0}, Vel: vec{0, 0, math.MaxInt64}}, 0, slices.Concat([]byte{0, 1, 33}, least, most)},
		{api.Record{Kind: api.Update, Pos: vec{-1, 0, 0}}, -1, []byte{0, 1, 1, 1}},
		{api.Record{Kind: api.Update, Pos: vec{0, -1, 0}}, -1, []byte{0, 1, 2, 1}},
		{api.Record{Kind: api.Update, Pos: vec{0, 0, -1}}, -1, []byte{0, 1, 4, 1}},
		{api.Record{Kind: api.Update, Vel: vec{-1, 0, 0}}, -1, []byte{0, 1, 8, 1}},
		{api.Record{Kind: api.Update, Vel: vec{0, -1, 0}}, -1, []byte{0, 1, 16, 1}},
		{api.Record{Kind: api.Update, Vel: vec{0, 0, -1}}, -1, []byte{0, 1, 32, 1}},
		{api.Record{Kind: api.Update, Angle: 1}, -1, []byte{0, 1, 64, 1}},
		{api.Record{Kind: api.Update, Angle: 65535}, -1, []byte{0, 1, 64, 255, 255, 3}},
		{api.Record{Kind: api.Update, Pos: vec{1, 2, 3}, Vel: vec{4, 5, 6}, Angle: 7}, -1, []byte{0, 1, 127, 2, 4, 6, 8, 10, 12, 7}},
		{api.Record{Kind: api.Update, Pos: vec{0, 2, 0}, Vel: vec{4, 0, 6}, Angle: 300}, -1, []byte{0, 1, 106, 4, 8, 12, 172, 2}},
	} {
		if e := Check(c.r); e != api.OK {
			t.Errorf("Check(%v) = %v", c.r, e)
		}
		if b, e := Write(c.r, c.last); !bytes.Equal(b, c.want) || e != api.OK {
			t.Errorf("Write(%v, %d) = %v, %v, want %v", c.r, c.last, b, e, c.want)
		}
		reads(t, c.want, c.last, c.r)
	}
}

// P8.1: Check, each error, and which of them goes ahead. Write tells the same, whatever last is.
func TestCheck(t *testing.T) {
	for _, c := range []struct {
		r    api.Record
		want api.Errno
	}{
		{api.Record{Kind: -1}, api.ErrKind}, {api.Record{Kind: 4}, api.ErrKind}, {api.Record{Kind: 256}, api.ErrKind}, {api.Record{Kind: math.MinInt}, api.ErrKind}, {api.Record{Kind: math.MaxInt}, api.ErrKind},
		{api.Record{Kind: 4, Id: -1, Angle: 1}, api.ErrKind}, {api.Record{Kind: -1, Id: api.MaxId + 1}, api.ErrKind},
		{api.Record{Kind: api.Put, Id: -1}, api.ErrRange}, {api.Record{Kind: api.Put, Id: api.MaxId + 1}, api.ErrRange}, {api.Record{Kind: api.Teleport, Id: math.MinInt}, api.ErrRange}, {api.Record{Kind: api.Teleport, Id: math.MaxInt}, api.ErrRange},
		{api.Record{Kind: api.Update, Id: -1}, api.ErrRange}, {api.Record{Kind: api.Remove, Id: api.MaxId + 1, Vel: vec{1, 0, 0}}, api.ErrRange},
		{api.Record{Kind: api.Update}, api.ErrArg}, {api.Record{Kind: api.Update, Id: api.MaxId}, api.ErrArg},
		{api.Record{Kind: api.Remove, Pos: vec{1, 0, 0}}, api.ErrArg}, {api.Record{Kind: api.Remove, Pos: vec{0, -1, 0}}, api.ErrArg}, {api.Record{Kind: api.Remove, Pos: vec{0, 0, math.MinInt64}}, api.ErrArg},
		{api.Record{Kind: api.Remove, Vel: vec{1, 0, 0}}, api.ErrArg}, {api.Record{Kind: api.Remove, Vel: vec{0, -1, 0}}, api.ErrArg}, {api.Record{Kind: api.Remove, Vel: vec{0, 0, math.MaxInt64}}, api.ErrArg},
		{api.Record{Kind: api.Remove, Angle: 1}, api.ErrArg}, {api.Record{Kind: api.Remove, Id: 7, Pos: vec{1, -1, 0}, Angle: 65535}, api.ErrArg},
	} {
		if e := Check(c.r); e != c.want {
			t.Errorf("Check(%v) = %v, want %v", c.r, e, c.want)
		}
		for _, last := range []int{math.MinInt, -2, -1, 0, 7, api.MaxId, api.MaxId + 1, math.MaxInt} {
			if b, e := Write(c.r, last); len(b) != 0 || e != c.want {
				t.Errorf("Write(%v, %d) = %v, %v, want none, %v", c.r, last, b, e, c.want)
			}
		}
	}
}

// P8.1: Write's own errors: of last, then of the order, at each Id that may be.
func TestWriteFails(t *testing.T) {
	for _, id := range []int{0, 1, 300, api.MaxId} {
		r := api.Record{Kind: api.Remove, Id: id}
		for last, want := range map[int]api.Errno{
			math.MinInt: api.ErrRange, -2: api.ErrRange, api.MaxId + 1: api.ErrRange, math.MaxInt: api.ErrRange,
			id: api.ErrOrder, api.MaxId: api.ErrOrder, min(id+1, api.MaxId): api.ErrOrder, id - 1: api.OK, -1: api.OK,
		} {
			if b, e := Write(r, last); e != want || e != api.OK && len(b) != 0 {
				t.Errorf("Write(%v, %d) = %v, %v, want %v", r, last, b, e, want)
			}
		}
	}
}

// P8.2: Read's errors of a reader that there isn't, and of last: the reader stays as it is.
func TestReadRefused(t *testing.T) {
	for _, last := range []int{math.MinInt, -2, api.MaxId + 1, math.MaxInt} {
		if r, e := Read(nil, last); r != (api.Record{}) || e != api.ErrNil {
			t.Errorf("Read(nil, %d) = %v, %v", last, r, e)
		}
		from := reader.New([]byte{3, 2, 4})
		if r, e := Read(from, last); r != (api.Record{}) || e != api.ErrRange {
			t.Errorf("Read(_, %d) = %v, %v, want none, ErrRange", last, r, e)
		}
		if from.At() != 0 || from.Err() != api.OK {
			t.Errorf("behind Read(_, %d): At %d, Err %v", last, from.At(), from.Err())
		}
		if r, e := Read(from, 4); r != (api.Record{Kind: api.Remove, Id: 8}) || e != api.OK {
			t.Errorf("Read behind a refused one = %v, %v", r, e)
		}
		from.Fail(api.ErrDup)
		if r, e := Read(from, last); r != (api.Record{}) || e != api.ErrRange {
			t.Errorf("Read(_, %d) of a reader that failed = %v, %v, want none, ErrRange", last, r, e)
		}
	}
	if r, e := Read(nil, 0); r != (api.Record{}) || e != api.ErrNil {
		t.Errorf("Read(nil, 0) = %v, %v", r, e)
	}
}

// P8.2: a reader that has failed keeps its error, also where no Id is above last.
func TestReadBehindFail(t *testing.T) {
	for _, last := range []int{-1, 0, api.MaxId} {
		from := reader.New([]byte{0, 2})
		from.Fail(api.ErrDup)
		if r, e := Read(from, last); r != (api.Record{}) || e != api.ErrDup || from.At() != 0 {
			t.Errorf("Read(_, %d) behind Fail = %v, %v, At %d", last, r, e, from.At())
		}
	}
}

// P8.2: each error of the bytes, and how many were taken ahead of it.
func TestReadFails(t *testing.T) {
	for _, c := range []struct {
		b        []byte
		last, at int
		want     api.Errno
	}{
		// the Id
		{nil, -1, 0, api.ErrShort}, {nil, api.MaxId - 1, 0, api.ErrShort}, {[]byte{128}, -1, 0, api.ErrShort}, {[]byte{128, 0, 2}, -1, 0, api.ErrForm}, {row(9, 255, 2, 2), -1, 0, api.ErrLong},
		{[]byte{128, 128, 4, 2}, -1, 0, api.ErrRange}, {[]byte{255, 255, 3, 2}, 0, 0, api.ErrRange}, {[]byte{1, 2}, api.MaxId - 1, 0, api.ErrRange}, {row(9, 255, 1, 2), -1, 0, api.ErrRange},
		{[]byte{0, 2}, api.MaxId, 0, api.ErrOrder}, {nil, api.MaxId, 0, api.ErrOrder}, {[]byte{128}, api.MaxId, 0, api.ErrOrder},
		// the Kind
		{[]byte{5}, -1, 1, api.ErrShort}, {[]byte{172, 2}, -1, 2, api.ErrShort}, {[]byte{5, 4}, -1, 2, api.ErrKind}, {[]byte{5, 255, 1}, -1, 2, api.ErrKind}, {[]byte{172, 2, 128}, -1, 3, api.ErrKind},
		// an Update's byte
		{[]byte{5, 1}, -1, 2, api.ErrShort}, {[]byte{5, 1, 0, 2}, -1, 3, api.ErrForm}, {[]byte{5, 1, 128, 2}, -1, 3, api.ErrForm}, {[]byte{5, 1, 129, 2, 2}, -1, 3, api.ErrForm}, {[]byte{5, 1, 255, 2, 2, 2, 2, 2, 2, 2}, -1, 3, api.ErrForm},
		// a Put, a Teleport
		{[]byte{5, 0}, -1, 2, api.ErrShort}, {[]byte{5, 3, 0, 0}, -1, 4, api.ErrShort}, {[]byte{5, 0, 0, 0, 0, 0, 0, 0}, -1, 8, api.ErrShort}, {[]byte{5, 0, 0, 0, 0, 0, 0, 129}, -1, 7, api.ErrShort},
		{[]byte{5, 3, 128, 0, 0, 0, 0, 0, 0, 0}, -1, 2, api.ErrForm}, {[]byte{5, 3, 0, 0, 0, 0, 128, 0, 0, 0}, -1, 6, api.ErrForm}, {append([]byte{5, 0, 0, 0, 0}, row(11, 255)...), -1, 5, api.ErrLong},
		{[]byte{5, 3, 0, 0, 0, 0, 0, 0, 128, 0}, -1, 8, api.ErrForm}, {[]byte{5, 0, 0, 0, 0, 0, 0, 0, 128, 128, 4}, -1, 8, api.ErrRange}, {append([]byte{5, 0, 0, 0, 0, 0, 0, 0}, row(9, 255, 1)...), -1, 8, api.ErrRange},
		// an Update's differences
		{[]byte{5, 1, 1}, -1, 3, api.ErrShort}, {[]byte{5, 1, 9, 2}, -1, 4, api.ErrShort}, {[]byte{5, 1, 64}, -1, 3, api.ErrShort}, {[]byte{5, 1, 65, 2, 128}, -1, 4, api.ErrShort},
		{[]byte{5, 1, 8, 129, 0}, -1, 3, api.ErrForm}, {append([]byte{5, 1, 32}, row(10, 128)...), -1, 3, api.ErrLong}, {[]byte{5, 1, 64, 128, 0}, -1, 3, api.ErrForm}, {[]byte{5, 1, 66, 2, 128, 128, 4}, -1, 4, api.ErrRange},
		{[]byte{5, 1, 1, 0}, -1, 4, api.ErrForm}, {[]byte{5, 1, 2, 0}, -1, 4, api.ErrForm}, {[]byte{5, 1, 4, 0}, -1, 4, api.ErrForm}, {[]byte{5, 1, 8, 0}, -1, 4, api.ErrForm}, {[]byte{5, 1, 16, 0}, -1, 4, api.ErrForm}, {[]byte{5, 1, 32, 0}, -1, 4, api.ErrForm}, {[]byte{5, 1, 64, 0}, -1, 4, api.ErrForm},
		{[]byte{5, 1, 127, 2, 2, 2, 2, 2, 2, 0}, -1, 10, api.ErrForm}, {[]byte{5, 1, 127, 2, 2, 2, 2, 2, 0, 2}, -1, 9, api.ErrForm},
		// a difference of 0 goes ahead of what is wrong behind its bytes
		{[]byte{5, 1, 3, 0}, -1, 4, api.ErrForm}, {[]byte{5, 1, 65, 0, 128, 128, 4}, -1, 4, api.ErrForm},
	} {
		fails(t, c.b, c.last, c.at, c.want)
	}
}

// P8.3: Diff, by hand, round both ends; the Ids are taken as they are.
func TestDiff(t *testing.T) {
	a := api.Entity{Id: 9, Pos: vec{1, math.MaxInt64, math.MinInt64}, Vel: vec{-5, 0, 7}, Angle: 65000, Gen: 3}
	for _, c := range []struct {
		b    api.Entity
		want api.Record
		ok   bool
	}{
		{a, api.Record{}, false},
		{api.Entity{Id: 9, Pos: vec{3, math.MinInt64, math.MaxInt64}, Vel: vec{-6, 2, 7}, Angle: 100, Gen: 3}, api.Record{Kind: api.Update, Id: 9, Pos: vec{2, 1, -1}, Vel: vec{-1, 2, 0}, Angle: 636}, true},
		{api.Entity{Id: 9, Pos: vec{math.MinInt64, -1, 0}, Vel: vec{math.MaxInt64, math.MinInt64, 7}, Angle: 64999, Gen: 3}, api.Record{Kind: api.Update, Id: 9, Pos: vec{math.MaxInt64, math.MinInt64, math.MinInt64}, Vel: vec{math.MinInt64 + 4, math.MinInt64, 0}, Angle: 65535}, true},
		{api.Entity{Id: 9, Pos: a.Pos, Vel: a.Vel, Angle: a.Angle, Gen: 4}, api.Record{Kind: api.Teleport, Id: 9, Pos: a.Pos, Vel: a.Vel, Angle: a.Angle}, true},
		{api.Entity{Id: 9, Pos: vec{4, 5, 6}, Vel: vec{7, 8, 9}, Angle: 1, Gen: 2}, api.Record{Kind: api.Teleport, Id: 9, Pos: vec{4, 5, 6}, Vel: vec{7, 8, 9}, Angle: 1}, true},
		{api.Entity{Id: 9}, api.Record{Kind: api.Teleport, Id: 9}, true},
		{api.Entity{Id: -7, Pos: a.Pos, Vel: a.Vel, Angle: 65001, Gen: 3}, api.Record{Kind: api.Update, Id: -7, Angle: 1}, true},
		{api.Entity{Id: math.MaxInt, Gen: 255}, api.Record{Kind: api.Teleport, Id: math.MaxInt}, true},
		{api.Entity{Id: math.MinInt, Pos: a.Pos, Vel: a.Vel, Angle: a.Angle, Gen: 3}, api.Record{Kind: api.Update, Id: math.MinInt}, true},
	} {
		if r, ok := Diff(a, c.b); r != c.want || ok != c.ok {
			t.Errorf("Diff(%v, %v) = %v, %v, want %v, %v", a, c.b, r, ok, c.want, c.ok)
		}
	}
	for _, b := range []api.Entity{{}, {Id: -1}, {Id: math.MaxInt, Gen: 255}} {
		if r, ok := Diff(b, b); r != (api.Record{}) || ok {
			t.Errorf("Diff(%v, the same) = %v, %v", b, r, ok)
		}
	}
}

// P8.3: Apply, by hand.
func TestApply(t *testing.T) {
	a := api.Entity{Id: 9, Pos: vec{1, math.MaxInt64, math.MinInt64}, Vel: vec{-5, 0, 7}, Angle: 65000, Gen: 255}
	for _, c := range []struct {
		r    api.Record
		want api.Entity
	}{
		{api.Record{Kind: api.Update, Id: 9, Pos: vec{2, 1, -1}, Vel: vec{-1, 2, 0}, Angle: 636}, api.Entity{Id: 9, Pos: vec{3, math.MinInt64, math.MaxInt64}, Vel: vec{-6, 2, 7}, Angle: 100, Gen: 255}},
		{api.Record{Kind: api.Update, Id: 9, Angle: 1}, api.Entity{Id: 9, Pos: a.Pos, Vel: a.Vel, Angle: 65001, Gen: 255}},
		{api.Record{Kind: api.Teleport, Id: 9, Pos: vec{4, 5, 6}, Vel: vec{7, 8, 9}, Angle: 1}, api.Entity{Id: 9, Pos: vec{4, 5, 6}, Vel: vec{7, 8, 9}, Angle: 1}},
		{api.Record{Kind: api.Teleport, Id: 9}, api.Entity{Id: 9}},
	} {
		if got, e := Apply(a, c.r); got != c.want || e != api.OK {
			t.Errorf("Apply(%v, %v) = %v, %v, want %v", a, c.r, got, e, c.want)
		}
	}
	for gen := range 256 {
		a.Gen = uint8(gen)
		got, e := Apply(a, api.Record{Kind: api.Teleport, Id: 9})
		if int(got.Gen) != (gen+1)%256 || e != api.OK {
			t.Errorf("Gen behind %d = %d, %v", gen, got.Gen, e)
		}
	}
}

// P8.3: Apply's errors: Check's, ahead of its own.
func TestApplyFails(t *testing.T) {
	for _, c := range []struct {
		id   int
		r    api.Record
		want api.Errno
	}{
		{9, api.Record{Kind: api.Put, Id: 9, Pos: vec{1, 2, 3}}, api.ErrApply}, {9, api.Record{Kind: api.Remove, Id: 9}, api.ErrApply},
		{9, api.Record{Kind: api.Put, Id: 8}, api.ErrApply}, {9, api.Record{Kind: api.Remove, Id: 8}, api.ErrApply},
		{9, api.Record{Kind: api.Update, Id: 8, Angle: 1}, api.ErrApply}, {9, api.Record{Kind: api.Update, Id: 10, Angle: 1}, api.ErrApply}, {9, api.Record{Kind: api.Teleport, Id: 0}, api.ErrApply},
		{-1, api.Record{Kind: api.Teleport, Id: 0}, api.ErrApply}, {api.MaxId + 1, api.Record{Kind: api.Update, Id: api.MaxId, Angle: 1}, api.ErrApply},
		{9, api.Record{Kind: 4, Id: 9}, api.ErrKind}, {9, api.Record{Kind: -1, Id: 8}, api.ErrKind}, {-1, api.Record{Kind: api.Teleport, Id: -1}, api.ErrRange}, {api.MaxId + 1, api.Record{Kind: api.Update, Id: api.MaxId + 1, Angle: 1}, api.ErrRange},
		{9, api.Record{Kind: api.Put, Id: -1}, api.ErrRange}, {9, api.Record{Kind: api.Update, Id: 9}, api.ErrArg}, {9, api.Record{Kind: api.Update, Id: 8}, api.ErrArg}, {9, api.Record{Kind: api.Remove, Id: 9, Angle: 1}, api.ErrArg},
	} {
		a := api.Entity{Id: c.id, Pos: vec{1, 2, 3}, Vel: vec{4, 5, 6}, Angle: 7, Gen: 8}
		if got, e := Apply(a, c.r); got != (api.Entity{}) || e != c.want {
			t.Errorf("Apply(%v, %v) = %v, %v, want none, %v", a, c.r, got, e, c.want)
		}
	}
}

// number is one of any size, often 0.
func number(chance *rand.Rand) int64 {
	if chance.IntN(3) == 0 {
		return 0
	}
	return int64(chance.Uint64()) >> chance.IntN(64)
}

func vector(chance *rand.Rand) vec {
	return vec{number(chance), number(chance), number(chance)}
}

// record is one that mostly may be.
func record(chance *rand.Rand) api.Record {
	r := api.Record{Kind: chance.IntN(4), Id: chance.IntN(api.MaxId + 1)}
	if chance.IntN(4) == 0 {
		r.Id = chance.IntN(3) * api.MaxId / 2
	}
	if r.Kind != api.Remove || chance.IntN(20) == 0 {
		r.Pos, r.Vel, r.Angle = vector(chance), vector(chance), uint16(number(chance))
	}
	switch chance.IntN(40) {
	case 0:
		r.Kind = int(number(chance))
	case 1:
		r.Id = int(number(chance))
	case 2:
		r = api.Record{Kind: r.Kind, Id: r.Id}
	}
	return r
}

// all are a record's numbers as they stand in bytes, in order.
func all(r api.Record) []uint64 {
	var list []uint64
	for _, v := range []vec{r.Pos, r.Vel} {
		for _, x := range v {
			list = append(list, varint.Zig(x))
		}
	}
	return append(list, uint64(r.Angle))
}

// modelWrite is Write by the chapter's words.
func modelWrite(r api.Record, last int) ([]byte, api.Errno) {
	numbers := all(r)
	zeros := 0
	for _, x := range numbers {
		if x == 0 {
			zeros++
		}
	}
	switch {
	case r.Kind < 0 || r.Kind > 3:
		return nil, api.ErrKind
	case r.Id < 0 || r.Id > 65535:
		return nil, api.ErrRange
	case r.Kind == api.Update && zeros == 7 || r.Kind == api.Remove && zeros < 7:
		return nil, api.ErrArg
	case last < -1 || last > 65535:
		return nil, api.ErrRange
	case r.Id <= last:
		return nil, api.ErrOrder
	}
	b := append(varint.Put(uint64(r.Id-last-1)), byte(r.Kind))
	if r.Kind == api.Remove {
		return b, api.OK
	}
	var behind []byte
	sum, bit := 0, 1
	for _, x := range numbers {
		if x != 0 || r.Kind != api.Update {
			behind = append(behind, varint.Put(x)...)
			sum += bit
		}
		bit *= 2
	}
	if r.Kind == api.Update {
		b = append(b, byte(sum))
	}
	return append(b, behind...), api.OK
}

// P8.1, P8.2, P8.4: what is written is what the model says, and is read as what it was; no piece of it is a record.
func TestWrittenIsRead(t *testing.T) {
	chance := rand.New(rand.NewPCG(8, 1))
	seen := map[api.Errno]int{}
	for range tries {
		r := record(chance)
		last := min(max(-2, r.Id-1-chance.IntN(300)), api.MaxId+1)
		if chance.IntN(8) == 0 {
			last = chance.IntN(api.MaxId+3) - 1
		}
		want, wantE := modelWrite(r, last)
		b, e := Write(r, last)
		if !bytes.Equal(b, want) || e != wantE {
			t.Fatalf("Write(%v, %d) = %v, %v, want %v, %v", r, last, b, e, want, wantE)
		}
		seen[e]++
		if e != api.OK {
			continue
		}
		from := reader.New(b)
		if got, e := Read(from, last); got != r || e != api.OK || from.Done() != api.OK {
			t.Fatalf("Read(%v, %d) = %v, %v, %v, want %v", b, last, got, e, from.Done(), r)
		}
		cut := chance.IntN(len(b))
		if got, e := Read(reader.New(b[:cut]), last); got != (api.Record{}) || e != api.ErrShort {
			t.Fatalf("Read(%v, %d) = %v, %v, want none, ErrShort", b[:cut], last, got, e)
		}
	}
	for _, e := range []api.Errno{api.OK, api.ErrKind, api.ErrRange, api.ErrArg, api.ErrOrder} {
		if seen[e] < 100 {
			t.Errorf("%v came %d times only", e, seen[e])
		}
	}
}

// P8.2, P8.4: what is read off any bytes may be, and is written as those that were taken.
func TestReadIsWritten(t *testing.T) {
	chance := rand.New(rand.NewPCG(8, 2))
	seen := map[api.Errno]int{}
	for range tries {
		last := chance.IntN(api.MaxId+2) - 1
		b := varint.Put(uint64(chance.IntN(api.MaxId+1)) >> chance.IntN(16))
		b = append(b, byte(chance.IntN(5)), byte(chance.IntN(140)))
		for range chance.IntN(10) {
			b = append(b, varint.Put(uint64(number(chance))>>chance.IntN(64))...)
		}
		before := slices.Clone(b)
		from := reader.New(b)
		r, e := Read(from, last)
		seen[e]++
		if !bytes.Equal(b, before) || e != from.Err() {
			t.Fatalf("Read(%v, %d): %v, the reader's is %v", before, last, e, from.Err())
		}
		if e != api.OK {
			if r != (api.Record{}) {
				t.Fatalf("Read(%v, %d) = %v, %v", before, last, r, e)
			}
			continue
		}
		if put, e := Write(r, last); !bytes.Equal(put, b[:from.At()]) || e != api.OK {
			t.Fatalf("Read(%v, %d) = %v, of %d bytes, that is written as %v, %v", b, last, r, from.At(), put, e)
		}
	}
	for _, e := range []api.Errno{api.OK, api.ErrKind, api.ErrRange, api.ErrShort, api.ErrForm} {
		if seen[e] < 100 {
			t.Errorf("%v came %d times only", e, seen[e])
		}
	}
}

// P8.2, P8.4: records behind one another, in one row of bytes.
func TestRow(t *testing.T) {
	chance := rand.New(rand.NewPCG(8, 3))
	for range tries / 100 {
		var b []byte
		var list []api.Record
		last := -1
		for range chance.IntN(20) {
			r := record(chance)
			r.Id = last + 1 + chance.IntN(200)
			put, e := Write(r, last)
			if e != api.OK {
				continue
			}
			b, list, last = append(b, put...), append(list, r), r.Id
		}
		from := reader.New(b)
		last = -1
		for i, want := range list {
			r, e := Read(from, last)
			if r != want || e != api.OK {
				t.Fatalf("record %d of %v = %v, %v, want %v", i, b, r, e, want)
			}
			last = r.Id
		}
		if from.Done() != api.OK {
			t.Fatalf("%d records of %v: %v", len(list), b, from.Done())
		}
	}
}

// P8.3, P8.4: what Apply makes of a by Diff is b, where b's Gen is a's or one more; else b with another Gen.
func TestDiffIsApplied(t *testing.T) {
	chance := rand.New(rand.NewPCG(8, 4))
	for range tries {
		id := chance.IntN(api.MaxId + 1)
		a := api.Entity{Id: id, Pos: vector(chance), Vel: vector(chance), Angle: uint16(chance.UintN(65536)), Gen: uint8(chance.UintN(256))}
		b := a
		for chance.IntN(3) > 0 {
			switch chance.IntN(4) {
			case 0:
				b.Pos[chance.IntN(3)] = number(chance)
			case 1:
				b.Vel[chance.IntN(3)] = number(chance)
			case 2:
				b.Angle = uint16(number(chance))
			case 3:
				b.Gen += uint8(chance.IntN(3))
			}
		}
		r, ok := Diff(a, b)
		if ok != (a != b) {
			t.Fatalf("Diff(%v, %v) = %v, %v", a, b, r, ok)
		}
		if !ok {
			continue
		}
		if teleport := r.Kind == api.Teleport; teleport != (a.Gen != b.Gen) || Check(r) != api.OK {
			t.Fatalf("Diff(%v, %v) = %v, which is %v", a, b, r, Check(r))
		}
		want := b
		if a.Gen != b.Gen {
			want.Gen = a.Gen + 1
		}
		if got, e := Apply(a, r); got != want || e != api.OK {
			t.Fatalf("Apply(%v, %v) = %v, %v, want %v", a, r, got, e, want)
		}
	}
}

// Rule 4: what was written is new memory, each time.
func TestNewMemory(t *testing.T) {
	for kind := range 4 {
		r := api.Record{Kind: kind, Id: 300}
		if kind != api.Remove {
			r.Angle = 7
		}
		one, _ := Write(r, -1)
		two, _ := Write(r, -1)
		want := slices.Clone(two)
		for i := range one[:cap(one)] {
			one[:cap(one)][i] ^= 255
		}
		if three, _ := Write(r, -1); !bytes.Equal(two, want) || !bytes.Equal(three, want) {
			t.Errorf("Write(%v) = %v, then %v, want %v", r, two, three, want)
		}
	}
}

// Rule 6: calls may be made by many goroutines at a time.
func TestManyAtATime(t *testing.T) {
	a := api.Entity{Id: 5, Pos: vec{1, 2, 3}, Gen: 255}
	var group sync.WaitGroup
	for i := range 100 {
		group.Go(func() {
			b := api.Entity{Id: 5, Pos: vec{int64(i), 2, 3}, Angle: uint16(i + 1), Gen: 255}
			if i%2 == 0 {
				b.Gen = 0
			}
			last := i%6 - 1
			r, _ := Diff(a, b)
			put, _ := Write(r, last)
			read, _ := Read(reader.New(put), last)
			if got, e := Apply(a, read); got != b || e != api.OK {
				t.Errorf("%v was made %v, %v", b, got, e)
			}
		})
	}
	group.Wait()
}
