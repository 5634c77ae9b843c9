package gram

import (
	"bytes"
	"math"
	"math/rand/v2"
	"slices"
	"sync"
	"testing"

	"afterimage/api"
	"afterimage/crc"
	"afterimage/reader"
	"afterimage/record"
	"afterimage/varint"
)

const tries = 20000

type vec = [3]int64

// same tells whether two datagrams are: whether a list without elements is nil plays no part.
func same(a, b api.Gram) bool {
	return a.Tick == b.Tick && a.Time == b.Time && a.Base == b.Base && slices.Equal(a.Records, b.Records)
}

// row is n bytes of c, and others behind them.
func row(n int, c byte, behind ...byte) []byte {
	return append(bytes.Repeat([]byte{c}, n), behind...)
}

// list are n Removes, of the Ids from first on.
func list(n, first int) []api.Record {
	var all []api.Record
	for i := range n {
		all = append(all, api.Record{Kind: api.Remove, Id: first + i})
	}
	return all
}

// ofSize is a datagram of so many bytes, the sum's among them, if it is from 600 on.
func ofSize(t *testing.T, size int) api.Gram {
	t.Helper()
	g := api.Gram{Base: -1, Records: list(100, 0)}
	left := size - 10 - 2*100
	for i := range g.Records {
		g.Records[i].Kind = api.Update
		g.Records[i].Angle = 1
		left -= 2
	}
	for i := 0; left > 0; i = (i + 1) % 600 {
		r := &g.Records[i%100]
		number := &r.Pos[i/100%3]
		if i >= 300 {
			number = &r.Vel[i/100%3]
		}
		n := min(left, 10)
		*number = varint.Zag(1 << (7 * (n - 1)))
		left -= n
	}
	if left < 0 {
		t.Fatalf("there is no datagram of %d bytes", size)
	}
	return g
}

// P9.1, P9.2: the chapter's example, with its sum.
func TestExample(t *testing.T) {
	want := []byte{71, 1, 0, 0, 0, 0, 158, 255, 178, 199}
	g := api.Gram{Base: -1}
	if b, e := Write(g); !bytes.Equal(b, want) || e != api.OK {
		t.Errorf("Write(%v) = %v, %v, want %v", g, b, e, want)
	}
	if got, e := Read(want); !same(got, g) || e != api.OK {
		t.Errorf("Read(%v) = %v, %v, want %v", want, got, e, g)
	}
	if Most() != 128 {
		t.Errorf("Most() = %d", Most())
	}
}

// P9.1, P9.2, P9.3: bytes worked out by hand, both ways.
func TestBytes(t *testing.T) {
	greatest := row(8, 128, 64)           // Zig of 2^61: 2^62
	least := append(row(8, 255), 63)      // Zig of -2^61: 2^62 less 1
	whole := []byte{0, 2, 1, 4, 3, 6, 11} // Pos 0 1 -1, Vel 2 -2 3, Angle 11
	for _, c := range []struct {
		g    api.Gram
		want []byte
	}{
		{api.Gram{Tick: 1, Base: -1}, []byte{71, 1, 1, 0, 0, 0}},
		{api.Gram{Tick: 1, Base: 0}, []byte{71, 1, 1, 0, 1, 0}},
		{api.Gram{Tick: 127, Time: 63, Base: 126}, []byte{71, 1, 127, 126, 1, 0}},
		{api.Gram{Tick: 128, Time: 64, Base: 0}, []byte{71, 1, 128, 1, 128, 1, 128, 1, 0}},
		{api.Gram{Tick: 300, Time: -1, Base: 1}, []byte{71, 1, 172, 2, 1, 171, 2, 0}},
		{api.Gram{Time: api.MaxTime, Base: -1}, slices.Concat([]byte{71, 1, 0}, greatest, []byte{0, 0})},
		{api.Gram{Time: -api.MaxTime, Base: -1}, slices.Concat([]byte{71, 1, 0}, least, []byte{0, 0})},
		{api.Gram{Tick: api.MaxTick, Base: -1}, []byte{71, 1, 255, 255, 255, 255, 15, 0, 0, 0}},
		{api.Gram{Tick: api.MaxTick, Base: 0}, []byte{71, 1, 255, 255, 255, 255, 15, 0, 255, 255, 255, 255, 15, 0}},
		{api.Gram{Tick: api.MaxTick, Base: api.MaxTick - 1}, []byte{71, 1, 255, 255, 255, 255, 15, 0, 1, 0}},
		{api.Gram{Base: -1, Records: list(1, 0)}, []byte{71, 1, 0, 0, 0, 1, 0, 2}},
		{api.Gram{Base: -1, Records: list(1, api.MaxId)}, []byte{71, 1, 0, 0, 0, 1, 255, 255, 3, 2}},
		{api.Gram{Base: -1, Records: list(2, api.MaxId-1)}, []byte{71, 1, 0, 0, 0, 2, 254, 255, 3, 2, 0, 2}},
		{api.Gram{Tick: 300, Time: -5, Base: 298, Records: []api.Record{{Kind: api.Remove, Id: 4}, {Kind: api.Update, Id: 6, Angle: 9}}}, []byte{71, 1, 172, 2, 9, 2, 2, 4, 2, 1, 1, 64, 9}},
		{api.Gram{Tick: 2, Base: 1, Records: []api.Record{
			{Kind: api.Put, Id: 1, Pos: vec{0, 1, -1}, Vel: vec{2, -2, 3}, Angle: 11},
			{Kind: api.Remove, Id: 2},
			{Kind: api.Teleport, Id: 9, Pos: vec{0, 1, -1}, Vel: vec{2, -2, 3}, Angle: 11},
			{Kind: api.Update, Id: 10, Pos: vec{0, 0, -4}},
		}}, slices.Concat([]byte{71, 1, 2, 0, 1, 4, 1, 0}, whole, []byte{0, 2, 6, 3}, whole, []byte{0, 1, 4, 7})},
		{api.Gram{Base: -1, Records: list(127, 0)}, slices.Concat([]byte{71, 1, 0, 0, 0, 127}, bytes.Repeat([]byte{0, 2}, 127))},
		{api.Gram{Base: -1, Records: list(128, 7)}, slices.Concat([]byte{71, 1, 0, 0, 0, 128, 1, 7, 2}, bytes.Repeat([]byte{0, 2}, 127))},
	} {
		want := crc.Seal(c.want)
		if e := Check(c.g); e != api.OK {
			t.Errorf("Check(%v) = %v", c.g, e)
		}
		if b, e := Write(c.g); !bytes.Equal(b, want) || e != api.OK {
			t.Errorf("Write(%v) = %v, %v, want %v", c.g, b, e, want)
		}
		if got, e := Read(want); !same(got, c.g) || e != api.OK {
			t.Errorf("Read(%v) = %v, %v, want %v", want, got, e, c.g)
		}
	}
}

// P9.1: each error of Check, and which one goes ahead; Write has the same.
func TestCheck(t *testing.T) {
	update := api.Record{Kind: api.Update, Id: 3, Angle: 1}
	for _, c := range []struct {
		g    api.Gram
		want api.Errno
	}{
		{api.Gram{Tick: -1, Base: -1}, api.ErrRange}, {api.Gram{Tick: api.MaxTick + 1, Base: -1}, api.ErrRange}, {api.Gram{Tick: math.MinInt64, Base: -1}, api.ErrRange}, {api.Gram{Tick: math.MaxInt64, Base: 5}, api.ErrRange},
		{api.Gram{Time: api.MaxTime + 1, Base: -1}, api.ErrRange}, {api.Gram{Time: -api.MaxTime - 1, Base: -1}, api.ErrRange}, {api.Gram{Time: math.MinInt64, Base: -1}, api.ErrRange}, {api.Gram{Time: math.MaxInt64, Base: -1}, api.ErrRange},
		{api.Gram{Base: -2}, api.ErrRange}, {api.Gram{Tick: 9, Base: -2}, api.ErrRange}, {api.Gram{Tick: 9, Base: math.MinInt64}, api.ErrRange}, {api.Gram{Tick: api.MaxTick, Base: math.MinInt64 + 1}, api.ErrRange},
		{api.Gram{}, api.ErrOrder}, {api.Gram{Tick: 5, Base: 5}, api.ErrOrder}, {api.Gram{Tick: 5, Base: 6}, api.ErrOrder}, {api.Gram{Tick: api.MaxTick, Base: api.MaxTick}, api.ErrOrder}, {api.Gram{Tick: 5, Base: math.MaxInt64}, api.ErrOrder},
		{api.Gram{Base: -1, Records: list(129, 0)}, api.ErrLong}, {api.Gram{Base: -1, Records: make([]api.Record, 1000)}, api.ErrLong},
		// a number that may not be, ahead of the order, ahead of how many there are, ahead of the records
		{api.Gram{Tick: -1, Base: 0}, api.ErrRange}, {api.Gram{Time: math.MaxInt64}, api.ErrRange}, {api.Gram{Tick: -5, Base: -2}, api.ErrRange}, {api.Gram{Tick: -1, Base: -1, Records: make([]api.Record, 129)}, api.ErrRange},
		{api.Gram{Records: make([]api.Record, 129)}, api.ErrOrder}, {api.Gram{Records: []api.Record{{Kind: 4}}}, api.ErrOrder}, {api.Gram{Base: -1, Records: append([]api.Record{{Kind: 4}}, list(128, 0)...)}, api.ErrLong},
		// the records
		{api.Gram{Base: -1, Records: []api.Record{{Kind: 4}}}, api.ErrKind}, {api.Gram{Base: -1, Records: []api.Record{{Kind: -1}}}, api.ErrKind}, {api.Gram{Base: -1, Records: []api.Record{{Id: -1}}}, api.ErrRange}, {api.Gram{Base: -1, Records: []api.Record{{Id: api.MaxId + 1}}}, api.ErrRange},
		{api.Gram{Base: -1, Records: []api.Record{{Kind: api.Update}}}, api.ErrArg}, {api.Gram{Base: -1, Records: []api.Record{{Kind: api.Remove, Angle: 1}}}, api.ErrArg},
		{api.Gram{Base: -1, Records: []api.Record{update, update}}, api.ErrOrder}, {api.Gram{Base: -1, Records: []api.Record{update, {Id: 2}}}, api.ErrOrder}, {api.Gram{Base: -1, Records: []api.Record{{Id: api.MaxId}, {Id: api.MaxId}}}, api.ErrOrder}, {api.Gram{Base: -1, Records: []api.Record{{Id: 1}, {Id: 5}, {Id: 3}}}, api.ErrOrder},
		// the first record that has one
		{api.Gram{Base: -1, Records: []api.Record{update, {Id: 2}, {Kind: 4}}}, api.ErrOrder}, {api.Gram{Base: -1, Records: []api.Record{update, {Kind: 4}, {Id: 2}}}, api.ErrKind}, {api.Gram{Base: -1, Records: []api.Record{update, {Kind: api.Update, Id: 2}}}, api.ErrArg}, {api.Gram{Base: -1, Records: []api.Record{{Id: -1}, {Id: -1}}}, api.ErrRange},
		{api.Gram{Base: -1, Records: append(list(127, 0), api.Record{Kind: 9, Id: 500})}, api.ErrKind},
	} {
		if e := Check(c.g); e != c.want {
			t.Errorf("Check(%v) = %v, want %v", c.g, e, c.want)
		}
		if b, e := Write(c.g); len(b) != 0 || e != c.want {
			t.Errorf("Write(%v) = %v, %v, want none, %v", c.g, b, e, c.want)
		}
	}
}

// P9.1, P9.2: as many bytes as there may be, and one more, which Check doesn't mind.
func TestMaxGram(t *testing.T) {
	for size := api.MaxGram - 3; size <= api.MaxGram+3; size++ {
		g := ofSize(t, size)
		want, wantE := modelWrite(g)
		b, e := Write(g)
		if !bytes.Equal(b, want) || e != wantE || Check(g) != api.OK {
			t.Errorf("of %d bytes: %d, %v, want %v", size, len(b), e, wantE)
		}
		if size > api.MaxGram {
			if len(b) != 0 || e != api.ErrLong {
				t.Errorf("of %d bytes: %d, %v", size, len(b), e)
			}
			continue
		}
		if len(b) != size {
			t.Errorf("of %d bytes: %d", size, len(b))
		}
		if got, e := Read(b); !same(got, g) || e != api.OK {
			t.Errorf("of %d bytes: read as %v, %v", size, got, e)
		}
	}
	big := api.Gram{Tick: 7, Base: 3, Records: list(128, 0)}
	for i := range big.Records {
		big.Records[i].Kind = api.Put
		big.Records[i].Pos = vec{math.MinInt64, math.MinInt64, math.MinInt64}
		big.Records[i].Vel = big.Records[i].Pos
	}
	if b, e := Write(big); len(b) != 0 || e != api.ErrLong || Check(big) != api.OK {
		t.Errorf("%d bytes, %v, %v", len(b), e, Check(big))
	}
}

// refused holds that no datagram is read.
func refused(t *testing.T, b []byte, want api.Errno) {
	t.Helper()
	if g, e := Read(b); !same(g, api.Gram{}) || e != want {
		t.Errorf("Read(%v) = %v, %v, want none, %v", b, g, e, want)
	}
}

// P9.2: what isn't opened. That there are too many bytes goes ahead.
func TestNotOpened(t *testing.T) {
	refused(t, nil, api.ErrSum)
	for size := range 5 {
		refused(t, row(size, 71), api.ErrSum)
	}
	refused(t, []byte{71, 1, 0, 0, 0, 0}, api.ErrSum)
	refused(t, []byte{71, 1, 0, 0, 0, 0, 158, 255, 178, 198}, api.ErrSum)
	refused(t, []byte{71, 1, 0, 0, 0, 0, 199, 178, 255, 158}, api.ErrSum)
	refused(t, row(api.MaxGram, 71), api.ErrSum)
	refused(t, row(api.MaxGram+1, 71), api.ErrLong)
	refused(t, crc.Seal(row(api.MaxGram-3, 71)), api.ErrLong)
	refused(t, crc.Seal(row(api.MaxGram-4, 71)), api.ErrForm)
	refused(t, row(1<<20, 0), api.ErrLong)
}

// P9.2: each place at which what is opened is wrong, and that what comes first goes ahead.
func TestReadFails(t *testing.T) {
	for _, c := range []struct {
		b    []byte
		want api.Errno
	}{
		{nil, api.ErrShort}, {[]byte{71}, api.ErrShort}, {[]byte{0}, api.ErrForm}, {[]byte{70}, api.ErrForm}, {[]byte{72, 1, 0, 0, 0, 0}, api.ErrForm}, {[]byte{1, 71, 0, 0, 0, 0}, api.ErrForm}, {[]byte{71, 0}, api.ErrForm}, {[]byte{71, 2, 0, 0, 0, 0}, api.ErrForm}, {[]byte{71, 129, 1, 0, 0, 0}, api.ErrForm},
		// Tick
		{[]byte{71, 1}, api.ErrShort}, {[]byte{71, 1, 128}, api.ErrShort}, {[]byte{71, 1, 133, 0, 0, 0, 0}, api.ErrForm}, {[]byte{71, 1, 128, 128, 128, 128, 16, 0, 0, 0}, api.ErrRange}, {append([]byte{71, 1}, row(9, 255, 1, 0, 0, 0)...), api.ErrRange}, {append([]byte{71, 1}, row(9, 255, 2, 0, 0, 0)...), api.ErrLong}, {append([]byte{71, 1}, row(10, 255)...), api.ErrLong},
		// Time
		{[]byte{71, 1, 5}, api.ErrShort}, {[]byte{71, 1, 5, 255}, api.ErrShort}, {[]byte{71, 1, 5, 128, 0, 0, 0}, api.ErrForm}, {append([]byte{71, 1, 5}, row(10, 255)...), api.ErrLong},
		{append([]byte{71, 1, 5}, row(1, 129, row(7, 128, 64, 0, 0)...)...), api.ErrRange}, {append([]byte{71, 1, 5}, row(1, 130, row(7, 128, 64, 0, 0)...)...), api.ErrRange}, {append([]byte{71, 1, 5}, row(9, 255, 1, 0, 0)...), api.ErrRange}, {append([]byte{71, 1, 5}, row(1, 254, row(8, 255, 1, 0, 0)...)...), api.ErrRange},
		// Base
		{[]byte{71, 1, 5, 0}, api.ErrShort}, {[]byte{71, 1, 5, 0, 130}, api.ErrShort}, {[]byte{71, 1, 5, 0, 6, 0}, api.ErrRange}, {[]byte{71, 1, 0, 0, 1, 0}, api.ErrRange}, {[]byte{71, 1, 5, 0, 131, 0, 0}, api.ErrForm}, {append([]byte{71, 1, 255, 255, 255, 255, 15, 0}, 128, 128, 128, 128, 16, 0), api.ErrRange}, {append([]byte{71, 1, 5, 0}, row(10, 128, 0)...), api.ErrLong},
		// how many records
		{[]byte{71, 1, 5, 0, 5}, api.ErrShort}, {[]byte{71, 1, 5, 0, 0, 128}, api.ErrShort}, {[]byte{71, 1, 5, 0, 0, 129, 1}, api.ErrRange}, {[]byte{71, 1, 5, 0, 0, 128, 0}, api.ErrForm}, {append([]byte{71, 1, 5, 0, 0}, row(9, 255, 1)...), api.ErrRange}, {append([]byte{71, 1, 5, 0, 0}, row(9, 255, 3)...), api.ErrLong}, {append([]byte{71, 1, 5, 0, 0, 129, 1}, bytes.Repeat([]byte{0, 2}, 129)...), api.ErrRange},
		// records
		{[]byte{71, 1, 5, 0, 0, 1}, api.ErrShort}, {[]byte{71, 1, 5, 0, 0, 1, 0}, api.ErrShort}, {[]byte{71, 1, 5, 0, 0, 2, 0, 2}, api.ErrShort}, {[]byte{71, 1, 5, 0, 0, 1, 0, 4}, api.ErrKind}, {[]byte{71, 1, 5, 0, 0, 2, 0, 2, 0, 255}, api.ErrKind}, {[]byte{71, 1, 5, 0, 0, 1, 0, 1, 0}, api.ErrForm}, {[]byte{71, 1, 5, 0, 0, 1, 0, 1, 128}, api.ErrForm}, {[]byte{71, 1, 5, 0, 0, 1, 0, 1, 64, 0}, api.ErrForm},
		{[]byte{71, 1, 5, 0, 0, 1, 128, 128, 4, 2}, api.ErrRange}, {[]byte{71, 1, 5, 0, 0, 2, 0, 2, 255, 255, 3, 2}, api.ErrRange}, {[]byte{71, 1, 5, 0, 0, 2, 255, 255, 3, 2, 0, 2}, api.ErrOrder}, {[]byte{71, 1, 5, 0, 0, 2, 255, 255, 3, 2}, api.ErrOrder}, {[]byte{71, 1, 5, 0, 0, 1, 0, 0, 0, 0, 0, 0, 0, 0, 128, 128, 4}, api.ErrRange}, {append([]byte{71, 1, 5, 0, 0, 128, 1}, bytes.Repeat([]byte{0, 2}, 127)...), api.ErrShort},
		// what is left
		{[]byte{71, 1, 5, 0, 0, 0, 0}, api.ErrLong}, {[]byte{71, 1, 5, 0, 0, 0, 0, 2}, api.ErrLong}, {[]byte{71, 1, 5, 0, 0, 1, 0, 2, 0}, api.ErrLong}, {append([]byte{71, 1, 5, 0, 0, 128, 1}, bytes.Repeat([]byte{0, 2}, 129)...), api.ErrLong}, {[]byte{71, 1, 5, 0, 0, 1, 255, 255, 3, 2, 9}, api.ErrLong}, {crc.Seal([]byte{71, 1, 0, 0, 0, 0}), api.ErrLong},
		// the first of several
		{[]byte{72, 2, 128, 0}, api.ErrForm}, {[]byte{71, 1, 128, 128, 128, 128, 16, 128, 0}, api.ErrRange}, {append([]byte{71, 1, 5}, row(9, 255, 1, 128, 0)...), api.ErrRange}, {append([]byte{71, 1, 5}, row(9, 255, 1)...), api.ErrRange}, {[]byte{71, 1, 5, 0, 6, 128, 0}, api.ErrRange}, {[]byte{71, 1, 5, 0, 6}, api.ErrRange}, {[]byte{71, 1, 5, 0, 0, 2, 0, 4, 0, 1, 0, 9}, api.ErrKind},
	} {
		refused(t, crc.Seal(c.b), c.want)
	}
}

// number is one of any size.
func number(chance *rand.Rand) int64 {
	return int64(chance.Uint64()) >> chance.IntN(64)
}

// within is a number from least to greatest, often one of these.
func within(chance *rand.Rand, least, greatest int64) int64 {
	switch chance.IntN(6) {
	case 0:
		return least
	case 1:
		return greatest
	}
	return min(max(number(chance), least), greatest)
}

// someRecord is one of an Id above last that may be.
func someRecord(chance *rand.Rand, last int) api.Record {
	r := api.Record{Kind: chance.IntN(4), Id: last + 1 + chance.IntN(300)>>chance.IntN(9)}
	if r.Kind == api.Remove {
		return r
	}
	for i := range 3 {
		r.Pos[i] = number(chance) * chance.Int64N(2)
		r.Vel[i] = number(chance) * chance.Int64N(2)
	}
	r.Angle = uint16(chance.UintN(65535)) + 1
	return r
}

// some is a datagram that may be.
func some(chance *rand.Rand) api.Gram {
	g := api.Gram{Tick: within(chance, 0, api.MaxTick), Time: within(chance, -api.MaxTime, api.MaxTime)}
	g.Base = within(chance, -1, g.Tick-1)
	last := -1
	for range chance.IntN(140) >> chance.IntN(8) {
		r := someRecord(chance, last)
		if len(g.Records) == 128 {
			break
		}
		g.Records = append(g.Records, r)
		last = r.Id
	}
	return g
}

// spoil makes something in a datagram others, so that it mostly may not be.
func spoil(chance *rand.Rand, g *api.Gram) {
	if n := len(g.Records); n > 0 && chance.IntN(2) == 0 {
		r := &g.Records[chance.IntN(n)]
		switch chance.IntN(4) {
		case 0:
			r.Kind = int(number(chance))
		case 1:
			r.Id = int(number(chance))
		case 2:
			r.Id = g.Records[chance.IntN(n)].Id
		case 3:
			*r = api.Record{Kind: chance.IntN(4), Id: r.Id, Angle: uint16(chance.IntN(2))}
		}
		return
	}
	switch chance.IntN(4) {
	case 0:
		g.Tick = number(chance)
	case 1:
		g.Time = number(chance)
	case 2:
		g.Base = number(chance)
	case 3:
		g.Records = append(g.Records, g.Records...)
	}
}

// modelCheck is Check by the chapter's words.
func modelCheck(g api.Gram) api.Errno {
	if g.Tick < 0 || g.Tick > 4294967295 {
		return api.ErrRange
	}
	if g.Time < -(1<<61) || g.Time > 1<<61 {
		return api.ErrRange
	}
	if g.Base < -1 {
		return api.ErrRange
	}
	if g.Base >= g.Tick {
		return api.ErrOrder
	}
	if len(g.Records) > 128 {
		return api.ErrLong
	}
	for i, r := range g.Records {
		last := -1
		if i > 0 {
			last = g.Records[i-1].Id
		}
		if _, e := record.Write(r, last); e != api.OK {
			return e
		}
	}
	return api.OK
}

// modelWrite is Write by the chapter's words.
func modelWrite(g api.Gram) ([]byte, api.Errno) {
	if e := modelCheck(g); e != api.OK {
		return nil, e
	}
	b := append([]byte{71, 1}, varint.Put(uint64(g.Tick))...)
	b = append(b, varint.Put(varint.Zig(g.Time))...)
	if g.Base == -1 {
		b = append(b, 0)
	} else {
		b = append(b, varint.Put(uint64(g.Tick-g.Base))...)
	}
	b = append(b, varint.Put(uint64(len(g.Records)))...)
	for i, r := range g.Records {
		last := -1
		if i > 0 {
			last = g.Records[i-1].Id
		}
		put, _ := record.Write(r, last)
		b = append(b, put...)
	}
	b = crc.Seal(b)
	if len(b) > 4096 {
		return nil, api.ErrLong
	}
	return b, api.OK
}

// modelHead is what is ahead of the records by the chapter's words, and how many there are; the first error ends it.
func modelHead(from *reader.Reader) (api.Gram, int, api.Errno) {
	for _, want := range []byte{71, 1} {
		c := from.Byte()
		if from.Err() != api.OK {
			return api.Gram{}, 0, from.Err()
		}
		if c != want {
			return api.Gram{}, 0, api.ErrForm
		}
	}
	tick := from.Uint(4294967295)
	if from.Err() != api.OK {
		return api.Gram{}, 0, from.Err()
	}
	time := from.Int()
	if from.Err() != api.OK {
		return api.Gram{}, 0, from.Err()
	}
	if time < -(1<<61) || time > 1<<61 {
		return api.Gram{}, 0, api.ErrRange
	}
	ago := from.Uint(tick)
	if from.Err() != api.OK {
		return api.Gram{}, 0, from.Err()
	}
	count := from.Uint(128)
	if from.Err() != api.OK {
		return api.Gram{}, 0, from.Err()
	}
	g := api.Gram{Tick: int64(tick), Time: time, Base: int64(tick - ago)}
	if ago == 0 {
		g.Base = -1
	}
	return g, int(count), api.OK
}

// modelRead is Read by the chapter's words.
func modelRead(b []byte) (api.Gram, api.Errno) {
	if len(b) > 4096 {
		return api.Gram{}, api.ErrLong
	}
	opened, ok := crc.Open(b)
	if !ok {
		return api.Gram{}, api.ErrSum
	}
	from := reader.New(opened)
	g, count, e := modelHead(from)
	if e != api.OK {
		return api.Gram{}, e
	}
	for i := range count {
		last := -1
		if i > 0 {
			last = g.Records[i-1].Id
		}
		r, e := record.Read(from, last)
		if e != api.OK {
			return api.Gram{}, e
		}
		g.Records = append(g.Records, r)
	}
	if from.Left() > 0 {
		return api.Gram{}, api.ErrLong
	}
	return g, api.OK
}

// often holds that each of these errors came.
func often(t *testing.T, seen map[api.Errno]int, errors ...api.Errno) {
	t.Helper()
	for _, e := range errors {
		if seen[e] < 50 {
			t.Errorf("%v came %d times only", e, seen[e])
		}
	}
}

// P9.1, P9.3: Check and Write are what the model says; what is written is read.
func TestWrittenIsRead(t *testing.T) {
	chance := rand.New(rand.NewPCG(9, 1))
	seen := map[api.Errno]int{}
	for range tries {
		g := some(chance)
		if chance.IntN(3) == 0 {
			spoil(chance, &g)
		}
		before := slices.Clone(g.Records)
		want, wantE := modelWrite(g)
		if e := Check(g); e != modelCheck(g) {
			t.Fatalf("Check(%v) = %v, want %v", g, e, modelCheck(g))
		}
		b, e := Write(g)
		if !bytes.Equal(b, want) || e != wantE || !slices.Equal(g.Records, before) {
			t.Fatalf("Write(%v) = %v, %v, want %v, %v", g, b, e, want, wantE)
		}
		seen[e]++
		if e != api.OK {
			continue
		}
		if got, e := Read(b); !same(got, g) || e != api.OK {
			t.Fatalf("Read(%v) = %v, %v, want %v", b, got, e, g)
		}
	}
	often(t, seen, api.OK, api.ErrRange, api.ErrOrder, api.ErrLong, api.ErrKind, api.ErrArg)
}

// spoilt are bytes in which something is others.
func spoilt(chance *rand.Rand, b []byte) []byte {
	b = slices.Clone(b)
	for chance.IntN(3) > 0 {
		if len(b) == 0 {
			break
		}
		at := chance.IntN(min(len(b), 1<<(1+chance.IntN(12))))
		switch chance.IntN(5) {
		case 0:
			b[at] = byte(chance.UintN(256))
		case 1:
			b[at] ^= 1 << chance.UintN(8)
		case 2:
			b = slices.Insert(b, at, byte(chance.UintN(256)))
		case 3:
			b = slices.Delete(b, at, at+1)
		case 4:
			b = b[:at]
		}
	}
	return b
}

// P9.2, P9.3: what is read off any bytes is what the model says, and is written as those bytes.
func TestReadIsWritten(t *testing.T) {
	chance := rand.New(rand.NewPCG(9, 2))
	seen := map[api.Errno]int{}
	for range tries {
		whole, e := Write(some(chance))
		if e != api.OK {
			continue
		}
		b := crc.Seal(spoilt(chance, whole[:len(whole)-4]))
		if chance.IntN(40) == 0 {
			b = spoilt(chance, whole)
		}
		before := slices.Clone(b)
		want, wantE := modelRead(b)
		g, e := Read(b)
		if !same(g, want) || e != wantE || !bytes.Equal(b, before) {
			t.Fatalf("Read(%v) = %v, %v, want %v, %v", before, g, e, want, wantE)
		}
		seen[e]++
		if e != api.OK {
			continue
		}
		if put, e := Write(g); !bytes.Equal(put, b) || e != api.OK {
			t.Fatalf("Read(%v) = %v, that is written as %v, %v", b, g, put, e)
		}
	}
	often(t, seen, api.OK, api.ErrShort, api.ErrForm, api.ErrRange, api.ErrLong, api.ErrSum, api.ErrKind)
}

// P9.3: with one bit turned, anywhere, nothing is read. In long ones some bits are left out.
func TestOneBitTurned(t *testing.T) {
	chance := rand.New(rand.NewPCG(9, 3))
	grams := []api.Gram{{Base: -1}, {Tick: 2, Base: 1, Records: list(128, 0)}}
	for range 20 {
		grams = append(grams, some(chance))
	}
	for _, g := range grams {
		b, e := Write(g)
		if e != api.OK {
			continue
		}
		for bit := 0; bit < 8*len(b); bit += 1 + len(b)/500 {
			b[bit/8] ^= 1 << (bit % 8)
			if got, e := Read(b); !same(got, api.Gram{}) || e != api.ErrSum {
				t.Fatalf("Read(%v), bit %d turned, = %v, %v", b, bit, got, e)
			}
			b[bit/8] ^= 1 << (bit % 8)
		}
		if got, e := Read(b); !same(got, g) || e != api.OK {
			t.Fatalf("Read(%v) = %v, %v, want %v", b, got, e, g)
		}
	}
}

// Rule 4: what lies behind a list's length is neither read nor written.
func TestStaysWithin(t *testing.T) {
	records := append(list(2, 4), api.Record{Kind: 9, Id: -9})
	g := api.Gram{Tick: 3, Base: 1, Records: records[:2]}
	b, e := Write(g)
	if e != api.OK || Check(g) != api.OK || records[2] != (api.Record{Kind: 9, Id: -9}) {
		t.Fatalf("Write(%v) = %v, %v; behind it %v", g, b, e, records[2])
	}
	long := append(slices.Clone(b), 1, 2, 3)
	if got, e := Read(long[:len(b)]); !same(got, g) || e != api.OK || !bytes.Equal(long[len(b):], []byte{1, 2, 3}) {
		t.Errorf("Read = %v, %v, want %v; behind it %v", got, e, g, long[len(b):])
	}
}

// Rule 4: answers share nothing with one another, nor with what was handed in.
func TestAnswersAreNew(t *testing.T) {
	g := api.Gram{Tick: 3, Base: 1, Records: list(3, 4)}
	one, _ := Write(g)
	two, _ := Write(g)
	want := slices.Clone(two)
	for i := range one[:cap(one)] {
		one[:cap(one)][i] ^= 255
	}
	if three, _ := Write(g); !bytes.Equal(two, want) || !bytes.Equal(three, want) {
		t.Errorf("Write(%v) = %v, then %v, want %v", g, two, three, want)
	}
	first, _ := Read(want)
	second, _ := Read(want)
	for i := range first.Records[:cap(first.Records)] {
		first.Records[:cap(first.Records)][i].Id = 99
	}
	if third, e := Read(want); !same(second, g) || !same(third, g) || e != api.OK {
		t.Errorf("Read(%v) = %v, then %v, want %v", want, second, third, g)
	}
	clear(want)
	if !same(second, g) {
		t.Errorf("what was read became %v", second)
	}
}

// Rule 6: calls may be made by many goroutines at a time.
func TestManyAtATime(t *testing.T) {
	records := list(100, 4)
	var group sync.WaitGroup
	for i := range 100 {
		group.Go(func() {
			g := api.Gram{Tick: int64(i + 1), Time: int64(-i), Base: int64(i), Records: records[:i]}
			b, _ := Write(g)
			if got, e := Read(b); !same(got, g) || e != api.OK || Check(g) != api.OK {
				t.Errorf("%v was read as %v, %v", g, got, e)
			}
		})
	}
	group.Wait()
}
