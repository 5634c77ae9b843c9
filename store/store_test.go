package store

import (
	"math"
	"math/rand/v2"
	"runtime"
	"slices"
	"sync"
	"testing"
	"weak"

	"afterimage/api"
	"afterimage/crc"
	"afterimage/delta"
	"afterimage/gram"
	"afterimage/varint"
)

const tries = 2000

// made is a new store.
func made(t *testing.T, most int) *Store {
	t.Helper()
	s, e := New(most)
	if s == nil || e != api.OK {
		t.Fatalf("New(%d) = %v, %v", most, s, e)
	}
	return s
}

// written are a datagram's bytes.
func written(t *testing.T, g api.Gram) []byte {
	t.Helper()
	b, e := gram.Write(g)
	if e != api.OK {
		t.Fatalf("Write(%v): %v", g, e)
	}
	return b
}

// data are the bytes of a datagram of these.
func data(t *testing.T, tick, time, base int64, records ...api.Record) []byte {
	t.Helper()
	return written(t, api.Gram{Tick: tick, Time: time, Base: base, Records: records})
}

// accept holds what Accept answers, and that it counts that alone.
func accept(t *testing.T, s *Store, b []byte, tick int64, want api.Errno) {
	t.Helper()
	taken, refused := s.Taken(), refusals(s)
	if k, e := s.Accept(b); k != tick || e != want {
		t.Fatalf("Accept(%v) = %d, %v, want %d, %v", b, k, e, tick, want)
	}
	if want == api.OK {
		taken++
	} else {
		refused[want]++
	}
	if n, now := s.Taken(), refusals(s); n != taken || now != refused {
		t.Fatalf("Accept(%v), %v: counts %d, %v, want %d, %v", b, want, n, now, taken, refused)
	}
}

// refusals are how many were refused by each error, and by numbers beside them.
func refusals(s *Store) (all [40]int) {
	for e := range all {
		all[e] = s.Refused(api.Errno(e))
	}
	return all
}

func same(a, b api.Snap) bool {
	return a.Tick == b.Tick && a.Time == b.Time && slices.Equal(a.Ents, b.Ents)
}

func isZero(x api.Snap) bool {
	return same(x, api.Snap{})
}

// stands holds which snapshots are kept, by all that may be asked. Twice, as asking changes nothing.
func stands(t *testing.T, s *Store, all ...api.Snap) {
	t.Helper()
	for range 2 {
		if n := s.Len(); n != len(all) {
			t.Fatalf("Len = %d, want %d", n, len(all))
		}
		for i, want := range all {
			if x, e := s.At(i); !same(x, want) || e != api.OK {
				t.Fatalf("At(%d) = %v, %v, want %v", i, x, e, want)
			}
			if x, ok := s.Get(want.Tick); !same(x, want) || !ok {
				t.Fatalf("Get(%d) = %v, %v, want %v", want.Tick, x, ok, want)
			}
		}
		for _, i := range []int{-1, len(all), len(all) + 1, api.MaxRing, math.MinInt, math.MaxInt} {
			if x, e := s.At(i); !isZero(x) || e != api.ErrRange {
				t.Fatalf("At(%d) of %d = %v, %v, want none, %v", i, len(all), x, e, api.ErrRange)
			}
		}
	}
}

// lacks holds that no snapshots of ticks are kept.
func lacks(t *testing.T, s *Store, ticks ...int64) {
	t.Helper()
	for _, tick := range ticks {
		if x, ok := s.Get(tick); !isZero(x) || ok {
			t.Errorf("Get(%d) = %v, %v, want none", tick, x, ok)
		}
	}
}

// plain are snapshots without entities, of these ticks, each of the time ten times its tick.
func plain(ticks ...int64) []api.Snap {
	var all []api.Snap
	for _, tick := range ticks {
		all = append(all, api.Snap{Tick: tick, Time: tick * 10})
	}
	return all
}

// filled is a store that has accepted such.
func filled(t *testing.T, most int, ticks ...int64) *Store {
	t.Helper()
	s := made(t, most)
	for _, tick := range ticks {
		accept(t, s, data(t, tick, tick*10, none), tick, api.OK)
	}
	return s
}

// puts are n Puts, of the Ids from 0 on.
func puts(n int) []api.Record {
	var all []api.Record
	for i := range n {
		all = append(all, api.Record{Id: i})
	}
	return all
}

// row are n entities, of the Ids from 0 on.
func row(n int) []api.Entity {
	var all []api.Entity
	for i := range n {
		all = append(all, api.Entity{Id: i})
	}
	return all
}

// P12.1: New, at its edges.
func TestNew(t *testing.T) {
	for _, most := range []int{0, -1, api.MaxRing + 1, 1 << 32, 1<<32 + 1, math.MinInt, math.MaxInt} {
		if s, e := New(most); s != nil || e != api.ErrRange {
			t.Errorf("New(%d) = %v, %v, want nil, %v", most, s, e, api.ErrRange)
		}
	}
	for most := 1; most <= api.MaxRing; most++ {
		s := made(t, most)
		stands(t, s)
		lacks(t, s, 0, 1, -1, api.MaxTick, math.MinInt64, math.MaxInt64)
		if n, all := s.Taken(), refusals(s); n != 0 || all != [40]int{} {
			t.Errorf("counts of a new store: %d, %v", n, all)
		}
	}
}

// The chapter's example.
func TestExample(t *testing.T) {
	snaps := []api.Snap{
		{Tick: 1, Time: 10, Ents: []api.Entity{{Id: 1, Pos: [3]int64{1, 2, 3}}, {Id: 4}}},
		{Tick: 2, Time: 20, Ents: []api.Entity{{Id: 1, Pos: [3]int64{2, 2, 3}, Gen: 1}, {Id: 3, Angle: 7}}},
		{Tick: 3, Time: 30, Ents: []api.Entity{{Id: 1, Pos: [3]int64{1, 2, 9}}, {Id: 5}}},
	}
	var all [3][]byte
	for i, of := range []func() (api.Gram, api.Errno){
		func() (api.Gram, api.Errno) { return delta.Full(snaps[0]) },
		func() (api.Gram, api.Errno) { return delta.Diff(snaps[0], snaps[2]) },
		func() (api.Gram, api.Errno) { return delta.Diff(snaps[0], snaps[1]) },
	} {
		g, e := of()
		if e != api.OK {
			t.Fatal(e)
		}
		all[i] = written(t, g)
	}
	s := made(t, 3)
	for i, tick := range []int64{1, 3, 2} {
		accept(t, s, all[i], tick, api.OK)
	}
	stands(t, s, snaps...)
	for _, b := range all {
		accept(t, s, b, 0, api.ErrDup)
	}
	stands(t, s, snaps...)
}

// sealed are bytes with their sum behind them.
func sealed(b ...byte) []byte {
	return crc.Seal(b)
}

// timed are the bytes of a datagram of the tick 9 with any time, also one that may not be.
func timed(time int64) []byte {
	b := append([]byte{71, 1, 9}, varint.Put(varint.Zig(time))...)
	return sealed(append(b, 0, 0)...)
}

// spoilt are bytes that layer 9 doesn't read, with the error.
type spoilt struct {
	b    []byte
	want api.Errno
}

func unread() map[string]spoilt {
	turned := timed(90)
	turned[2] ^= 1
	return map[string]spoilt{
		"nil": {nil, api.ErrSum}, "none": {[]byte{}, api.ErrSum}, "three": {[]byte{71, 1, 0}, api.ErrSum}, "no sum": {[]byte{71, 1, 9, 0, 0, 0}, api.ErrSum}, "turned": {turned, api.ErrSum},
		"long": {make([]byte, api.MaxGram+1), api.ErrLong}, "long and sealed": {sealed(make([]byte, api.MaxGram-3)...), api.ErrLong}, "as long as may be": {make([]byte, api.MaxGram), api.ErrSum},
		"empty": {sealed(), api.ErrShort}, "mark": {sealed(72, 1, 9, 0, 0, 0), api.ErrForm}, "version": {sealed(71, 2, 9, 0, 0, 0), api.ErrForm}, "tick in two": {sealed(71, 1, 128, 0, 0, 0, 0), api.ErrForm},
		"short": {sealed(71, 1, 9, 0, 0), api.ErrShort}, "record short": {sealed(71, 1, 9, 0, 0, 1), api.ErrShort}, "left": {sealed(71, 1, 9, 0, 0, 0, 5), api.ErrLong},
		"tick": {sealed(append([]byte{71, 1}, append(varint.Put(api.MaxTick+1), 0, 0, 0)...)...), api.ErrRange}, "time": {timed(api.MaxTime + 1), api.ErrRange}, "time below": {timed(-api.MaxTime - 1), api.ErrRange},
		"base": {sealed(71, 1, 9, 0, 10, 0), api.ErrRange}, "records": {sealed(71, 1, 9, 0, 0, 129, 1), api.ErrRange}, "kind": {sealed(71, 1, 9, 0, 0, 1, 1, 4), api.ErrKind}, "order": {sealed(71, 1, 9, 0, 0, 2, 255, 255, 3, 2, 0, 2), api.ErrOrder},
	}
}

// P12.1: layer 9's errors, in a store without snapshots, with some, and a full one. The tick 9 is kept in some of them: what isn't read goes ahead.
func TestNotRead(t *testing.T) {
	for _, ticks := range [][]int64{nil, {9}, {9, 10}, {10, 11}, {10, 11, 12}} {
		s := filled(t, 2, ticks...)
		kept := plain(ticks[max(0, len(ticks)-2):]...)
		seen := map[api.Errno]int{}
		for name, c := range unread() {
			if _, e := gram.Read(c.b); e != c.want {
				t.Fatalf("%s: layer 9 says %v, want %v", name, e, c.want)
			}
			accept(t, s, c.b, 0, c.want)
			seen[c.want]++
			stands(t, s, kept...)
		}
		for e := range api.ErrState + 1 {
			if n := s.Refused(e); n != seen[e] {
				t.Errorf("Refused(%v) = %d, want %d", e, n, seen[e])
			}
		}
	}
}

// P12.1: a tick that is kept is refused, whatever else is told of it, be it the least, the greatest or between, in a full store and one with room.
func TestDup(t *testing.T) {
	for _, most := range []int{3, 4} {
		s := filled(t, most, 4, 0, api.MaxTick)
		for _, tick := range []int64{0, 4, api.MaxTick} {
			accept(t, s, data(t, tick, tick*10, none), 0, api.ErrDup)
			accept(t, s, data(t, tick, 5, none, api.Record{Id: 1}), 0, api.ErrDup)
			accept(t, s, data(t, tick, tick*10, none, api.Record{Kind: api.Remove, Id: 1}), 0, api.ErrDup)
			accept(t, s, data(t, tick, tick*10, none, puts(65)...), 0, api.ErrDup)
			accept(t, s, data(t, tick, -1, none), 0, api.ErrDup)
			accept(t, s, data(t, tick, api.MaxTime, none), 0, api.ErrDup)
			if tick > 0 {
				accept(t, s, data(t, tick, tick*10, 0), 0, api.ErrDup)
				accept(t, s, data(t, tick, tick*10, 1), 0, api.ErrDup)
			}
		}
		stands(t, s, plain(0, 4, api.MaxTick)...)
	}
}

// P12.1: a tick that the ring would refuse as stale is refused ahead of all that is wrong with its Base, its entities and its Time; nothing else is stale.
func TestStale(t *testing.T) {
	s := filled(t, 2, 10, 5)
	for range 2 {
		first := least(t, s)
		for _, tick := range []int64{0, 1, 3, first - 1} {
			accept(t, s, data(t, tick, tick*10, none), 0, api.ErrStale)
			accept(t, s, data(t, tick, api.MaxTime, none), 0, api.ErrStale)
			accept(t, s, data(t, tick, 0, none, api.Record{Kind: api.Remove, Id: 1}), 0, api.ErrStale)
			accept(t, s, data(t, tick, 0, none, puts(65)...), 0, api.ErrStale)
			if tick > 0 {
				accept(t, s, data(t, tick, tick*10, tick-1), 0, api.ErrStale)
			}
		}
		if s.Len() != 2 || least(t, s) != first {
			t.Fatal("what is stale changed what is kept")
		}
		// what is above the least is not, and makes it stale itself
		accept(t, s, data(t, first+1, first*10+10, first), first+1, api.OK)
		accept(t, s, data(t, first, first*10, none), 0, api.ErrStale)
	}
	stands(t, s, plain(7, 10)...)
}

// least is the least tick that is kept.
func least(t *testing.T, s *Store) int64 {
	t.Helper()
	x, e := s.At(0)
	if e != api.OK {
		t.Fatal(e)
	}
	return x.Tick
}

// P12.1: while there is room no tick is too late, as none has gone.
func TestRoomBelow(t *testing.T) {
	for most := 1; most <= api.MaxRing; most++ {
		s := made(t, most)
		var ticks []int64
		for i := range int64(most) {
			tick := 1000 - i
			accept(t, s, data(t, tick, tick*10, none), tick, api.OK)
			ticks = append([]int64{tick}, ticks...)
		}
		stands(t, s, plain(ticks...)...)
		tick := 1000 - int64(most)
		accept(t, s, data(t, tick, tick*10, none), 0, api.ErrStale)
		accept(t, s, data(t, 1001, 10010, none), 1001, api.OK)
		stands(t, s, plain(append(ticks[1:], 1001)...)...)
		accept(t, s, data(t, ticks[0], ticks[0]*10, none), 0, api.ErrStale)
		lacks(t, s, ticks[0])
	}
}

// P12.1: a Base that isn't kept: never told, refused, gone, or told later on.
func TestBase(t *testing.T) {
	s := made(t, 3)
	accept(t, s, data(t, 5, 50, 0), 0, api.ErrBase)
	accept(t, s, data(t, 5, 50, 4), 0, api.ErrBase)
	accept(t, s, data(t, api.MaxTick, 50, api.MaxTick-1), 0, api.ErrBase)
	stands(t, s)
	accept(t, s, data(t, 3, 30, none), 3, api.OK)
	accept(t, s, data(t, 4, 30, none), 0, api.ErrTime) // so 4 is no Base
	for _, base := range []int64{0, 1, 2, 4} {
		accept(t, s, data(t, 5, 50, base), 0, api.ErrBase)
		accept(t, s, data(t, 5, 50, base, api.Record{Kind: api.Remove, Id: 1}), 0, api.ErrBase)
		accept(t, s, data(t, 5, 50, base, puts(65)...), 0, api.ErrBase)
		accept(t, s, data(t, 5, 30, base), 0, api.ErrBase)
	}
	stands(t, s, plain(3)...)
	accept(t, s, data(t, 4, 40, 3), 4, api.OK)
	accept(t, s, data(t, 5, 50, 4), 5, api.OK)
	accept(t, s, data(t, 6, 60, 3), 6, api.OK) // the Base is the least: it goes now
	accept(t, s, data(t, 7, 70, 3), 0, api.ErrBase)
	stands(t, s, plain(4, 5, 6)...)
	accept(t, s, data(t, 9, 90, 4), 9, api.OK) // not the newest one, nor the one of the next lesser tick
	accept(t, s, data(t, 8, 80, 5), 8, api.OK)
	stands(t, s, plain(6, 8, 9)...)
}

// P12.1: the Base may be of the tick 0, and what is told by none is told by none, also where 0 is kept.
func TestBaseZero(t *testing.T) {
	s := made(t, 4)
	zero := api.Snap{Time: -5, Ents: []api.Entity{{Id: 0, Angle: 3}}}
	accept(t, s, data(t, 0, -5, none, api.Record{Id: 0, Angle: 3}), 0, api.OK)
	accept(t, s, data(t, 1, -4, 0, api.Record{Kind: api.Update, Id: 0, Angle: 1}), 1, api.OK)
	accept(t, s, data(t, 2, -3, none), 2, api.OK)
	accept(t, s, data(t, 3, -2, none, api.Record{Kind: api.Update, Id: 0, Angle: 1}), 0, api.ErrApply)
	accept(t, s, data(t, 3, -2, none, api.Record{Id: 0, Angle: 9}), 3, api.OK)
	stands(t, s, zero, api.Snap{Tick: 1, Time: -4, Ents: []api.Entity{{Id: 0, Angle: 4}}}, api.Snap{Tick: 2, Time: -3}, api.Snap{Tick: 3, Time: -2, Ents: []api.Entity{{Id: 0, Angle: 9}}})
}

// P12.1: what doesn't fit on its Base is refused by layer 10's error, ahead of what is wrong with its Time.
func TestApply(t *testing.T) {
	s := made(t, 3)
	accept(t, s, data(t, 1, 10, none, api.Record{Id: 7}), 1, api.OK)
	accept(t, s, data(t, 2, 20, none, puts(api.MaxEnts)...), 2, api.OK)
	kept := []api.Snap{{Tick: 1, Time: 10, Ents: []api.Entity{{Id: 7}}}, {Tick: 2, Time: 20, Ents: row(api.MaxEnts)}}
	for _, time := range []int64{30, 20, 0} {
		for _, r := range []api.Record{{Id: 7}, {Kind: api.Update, Id: 6, Angle: 1}, {Kind: api.Remove, Id: 8}, {Kind: api.Teleport, Id: 0}} {
			accept(t, s, data(t, 3, time, 1, r), 0, api.ErrApply)
		}
		accept(t, s, data(t, 3, time, none, api.Record{Kind: api.Update, Id: 7, Angle: 1}), 0, api.ErrApply)
		accept(t, s, data(t, 3, time, none, puts(api.MaxEnts+1)...), 0, api.ErrFull)
		accept(t, s, data(t, 3, time, 1, puts(api.MaxEnts+1)...), 0, api.ErrApply)
		accept(t, s, data(t, 3, time, 2, api.Record{Id: api.MaxId}), 0, api.ErrFull)
		stands(t, s, kept...)
	}
	accept(t, s, data(t, 3, 30, 2, api.Record{Id: 64}, api.Record{Kind: api.Remove, Id: 65}), 0, api.ErrApply)
	accept(t, s, data(t, 3, 30, 2, api.Record{Kind: api.Remove, Id: 63}, api.Record{Id: 64}), 3, api.OK)
	stands(t, s, append(kept, api.Snap{Tick: 3, Time: 30, Ents: append(row(63), api.Entity{Id: 64})})...)
}

// P12.1: a Time must be between those of the kept snapshots on both sides, and be neither.
func TestTime(t *testing.T) {
	s := filled(t, 5, 10, 20, 30)
	for _, c := range []struct{ tick, low, high int64 }{{15, 100, 200}, {11, 100, 200}, {19, 100, 200}, {21, 200, 300}} {
		for _, time := range []int64{c.low, c.low - 1, 0, -1, -api.MaxTime, c.high, c.high + 1, api.MaxTime} {
			accept(t, s, data(t, c.tick, time, none), 0, api.ErrTime)
			accept(t, s, data(t, c.tick, time, 10), 0, api.ErrTime)
		}
	}
	for _, time := range []int64{100, 101, 250, 300, api.MaxTime} {
		accept(t, s, data(t, 9, time, none), 0, api.ErrTime)
		accept(t, s, data(t, 0, time, none), 0, api.ErrTime)
	}
	for _, time := range []int64{300, 299, 250, 0, -api.MaxTime} {
		accept(t, s, data(t, 31, time, none), 0, api.ErrTime)
		accept(t, s, data(t, api.MaxTick, time, 30), 0, api.ErrTime)
	}
	stands(t, s, plain(10, 20, 30)...)
	// those next to the ones that are refused
	accept(t, s, data(t, 19, 101, none), 19, api.OK)
	accept(t, s, data(t, 21, 299, 10), 21, api.OK)
	stands(t, s, api.Snap{Tick: 10, Time: 100}, api.Snap{Tick: 19, Time: 101}, api.Snap{Tick: 20, Time: 200}, api.Snap{Tick: 21, Time: 299}, api.Snap{Tick: 30, Time: 300})
}

// P12.1: the Times' ends; one on the outside is bound on one side alone.
func TestTimeEnds(t *testing.T) {
	s := made(t, 4)
	accept(t, s, data(t, 5, -api.MaxTime, none), 5, api.OK)
	accept(t, s, data(t, 4, -api.MaxTime, none), 0, api.ErrTime)
	accept(t, s, data(t, 4, api.MaxTime, none), 0, api.ErrTime)
	accept(t, s, data(t, 8, api.MaxTime, none), 8, api.OK)
	accept(t, s, data(t, 9, api.MaxTime, none), 0, api.ErrTime)
	accept(t, s, data(t, 9, -api.MaxTime, none), 0, api.ErrTime)
	accept(t, s, data(t, 7, api.MaxTime, none), 0, api.ErrTime)
	accept(t, s, data(t, 6, -api.MaxTime, none), 0, api.ErrTime)
	accept(t, s, data(t, 6, 1-api.MaxTime, none), 6, api.OK)
	accept(t, s, data(t, 7, api.MaxTime-1, none), 7, api.OK)
	stands(t, s, api.Snap{Tick: 5, Time: -api.MaxTime}, api.Snap{Tick: 6, Time: 1 - api.MaxTime}, api.Snap{Tick: 7, Time: api.MaxTime - 1}, api.Snap{Tick: 8, Time: api.MaxTime})

	s = made(t, 1)
	accept(t, s, data(t, 0, api.MaxTime, none), 0, api.OK)
	accept(t, s, data(t, 1, api.MaxTime, none), 0, api.ErrTime) // the one that would go counts, too
	accept(t, s, data(t, 1, 5, 0), 0, api.ErrTime)
	stands(t, s, api.Snap{Time: api.MaxTime})
}

// P12.1: a Time is held against what is kept alone: not against what went, was refused, or is further away.
func TestTimeOfKept(t *testing.T) {
	s := filled(t, 2, 10, 20, 30)
	stands(t, s, plain(20, 30)...)
	accept(t, s, data(t, 25, 200, none), 0, api.ErrTime)
	accept(t, s, data(t, 40, 999, 10), 0, api.ErrBase)
	accept(t, s, data(t, 35, 400, 20), 35, api.OK)
	accept(t, s, data(t, 36, 350, none), 0, api.ErrTime)
	accept(t, s, data(t, 40, 401, none), 40, api.OK)
	stands(t, s, api.Snap{Tick: 35, Time: 400}, api.Snap{Tick: 40, Time: 401})
}

// P12.1: a full store lets the least one go, also for one that isn't the newest, and if that one is its Base or its neighbour.
func TestGoes(t *testing.T) {
	s := filled(t, 3, 10, 20, 30)
	accept(t, s, data(t, 40, 400, none), 40, api.OK)
	stands(t, s, plain(20, 30, 40)...)
	lacks(t, s, 10)
	accept(t, s, data(t, 25, 250, 20), 25, api.OK)
	stands(t, s, plain(25, 30, 40)...)
	lacks(t, s, 10, 20)
	accept(t, s, data(t, 20, 200, none), 0, api.ErrStale)
	accept(t, s, data(t, 24, 240, none), 0, api.ErrStale)
	accept(t, s, data(t, 35, 350, 25), 35, api.OK)
	stands(t, s, plain(30, 35, 40)...)
	if n := s.Taken(); n != 6 {
		t.Errorf("Taken = %d, want 6", n)
	}
}

// P12.2: Get at any tick.
func TestGet(t *testing.T) {
	s := filled(t, 3, 0, 7, api.MaxTick)
	lacks(t, s, -1, 1, 6, 8, api.MaxTick-1, api.MaxTick+1, 7+1<<32, math.MinInt64, math.MaxInt64)
	stands(t, s, plain(0, 7, api.MaxTick)...)
}

// P12.2: Refused of numbers that Accept never answers, and of OK.
func TestRefusedOfAny(t *testing.T) {
	s := filled(t, 3, 1, 2)
	accept(t, s, nil, 0, api.ErrSum)
	accept(t, s, nil, 0, api.ErrSum)
	accept(t, s, data(t, 1, 1, none), 0, api.ErrDup)
	for _, c := range []struct {
		e    api.Errno
		want int
	}{
		{api.OK, 0}, {api.ErrSum, 2}, {api.ErrDup, 1}, {api.ErrNil, 0}, {api.ErrState, 0}, {api.ErrState + 1, 0}, {-1, 0}, {-api.ErrSum, 0}, {1<<32 + api.ErrSum, 0}, {256 + api.ErrSum, 0}, {math.MinInt, 0}, {math.MaxInt, 0},
	} {
		if n := s.Refused(c.e); n != c.want {
			t.Errorf("Refused(%d) = %d, want %d", c.e, n, c.want)
		}
	}
	if n := s.Taken(); n != 2 {
		t.Errorf("Taken = %d, want 2", n)
	}
}

// The bracket below the functions: a nil store, that goes ahead of all that is wrong.
func TestNil(t *testing.T) {
	var s *Store
	for _, b := range [][]byte{nil, {1}, data(t, 1, 1, none), make([]byte, api.MaxGram+1)} {
		if k, e := s.Accept(b); k != 0 || e != api.ErrNil {
			t.Errorf("Accept of nil = %d, %v", k, e)
		}
	}
	for _, i := range []int{0, 1, -1, math.MinInt, math.MaxInt} {
		if x, e := s.At(i); !isZero(x) || e != api.ErrNil {
			t.Errorf("At(%d) of nil = %v, %v", i, x, e)
		}
	}
	lacks(t, s, 0, 1, -1, math.MinInt64, math.MaxInt64)
	for _, e := range []api.Errno{api.OK, api.ErrNil, api.ErrSum, -1, math.MinInt, math.MaxInt} {
		if n := s.Refused(e); n != 0 {
			t.Errorf("Refused(%v) of nil = %d", e, n)
		}
	}
	if s.Len() != 0 || s.Taken() != 0 {
		t.Errorf("of nil: Len %d, Taken %d", s.Len(), s.Taken())
	}
}

// Rule 4: what was handed in may be changed when the call has answered, and isn't changed by it; nothing behind its length is read.
func TestBytesAreTheCallers(t *testing.T) {
	s := made(t, 2)
	kept := []api.Snap{{Tick: 1, Time: 10, Ents: []api.Entity{{Id: 1, Pos: [3]int64{5, 6, 7}, Vel: [3]int64{1, 0, 1}, Angle: 2}}}, {Tick: 2, Time: 20, Ents: []api.Entity{{Id: 1, Pos: [3]int64{5, 6, 8}, Vel: [3]int64{1, 0, 1}, Angle: 2}, {Id: 9}}}}
	first := data(t, 1, 10, none, api.Record{Id: 1, Pos: [3]int64{5, 6, 7}, Vel: [3]int64{1, 0, 1}, Angle: 2})
	second := data(t, 2, 20, 1, api.Record{Kind: api.Update, Id: 1, Pos: [3]int64{0, 0, 1}}, api.Record{Id: 9})
	room := make([]byte, api.MaxGram+9)
	for i, b := range [][]byte{first, second, second, first[:5]} {
		for k := range room {
			room[k] = byte(k)
		}
		n := copy(room, b)
		before := slices.Clone(room)
		if _, e := s.Accept(room[:n]); (e == api.OK) != (i < 2) {
			t.Fatalf("%d: %v", i, e)
		}
		if !slices.Equal(room, before) {
			t.Errorf("%d: the bytes were changed", i)
		}
		clear(room)
		stands(t, s, kept[:min(i+1, 2)]...)
	}
}

// Rule 4: what is answered is the caller's: neither the store nor another answer hangs on it.
func TestAnswersAreTheCallers(t *testing.T) {
	s := made(t, 2)
	kept := []api.Snap{{Tick: 1, Time: 10, Ents: row(3)}, {Tick: 2, Time: 20, Ents: row(4)}}
	accept(t, s, data(t, 1, 10, none, puts(3)...), 1, api.OK)
	accept(t, s, data(t, 2, 20, 1, api.Record{Id: 3}), 2, api.OK)
	for i, want := range kept {
		for _, of := range []func() api.Snap{
			func() api.Snap { x, _ := s.At(i); return x },
			func() api.Snap { x, _ := s.Get(want.Tick); return x },
		} {
			byPlace, _ := s.At(i)
			byTick, _ := s.Get(want.Tick)
			x := of()
			whole := x.Ents[:cap(x.Ents)]
			for k := range whole {
				whole[k] = api.Entity{Id: -9, Gen: 9}
			}
			stands(t, s, kept...)
			if !same(byPlace, want) || !same(byTick, want) {
				t.Errorf("answers share memory: %v, %v", byPlace, byTick)
			}
		}
	}
	// what is told by a Base that was answered, and then changed, is told by what is kept
	accept(t, s, data(t, 3, 30, 2, api.Record{Kind: api.Update, Id: 0, Angle: 5}), 3, api.OK)
	if x, _ := s.Get(3); !slices.Equal(x.Ents[1:], row(4)[1:]) || x.Ents[0] != (api.Entity{Angle: 5}) {
		t.Errorf("Get(3) = %v", x)
	}
}

// LANGUAGE.md, 8: neither the bytes, nor a snapshot that was refused or has gone, is held any more.
func TestNotKept(t *testing.T) {
	s := filled(t, 1)
	b := data(t, 1, 10, none, puts(40)...)
	bytes := weak.Make(&b[0])
	accept(t, s, b, 1, api.OK)
	b = nil
	x, _ := s.kept.Get(1)
	first := weak.Make(&x.Ents[0])
	x = api.Snap{}
	runtime.GC()
	if bytes.Value() != nil {
		t.Error("the bytes are kept")
	}
	if first.Value() == nil {
		t.Error("the snapshot isn't kept")
	}
	accept(t, s, data(t, 2, 20, 1), 2, api.OK)
	runtime.GC()
	if first.Value() != nil {
		t.Error("a snapshot that has gone is kept")
	}
	runtime.KeepAlive(s)
}

// model is a store by the chapter's words: all snapshots that were ever accepted, and which of them have gone.
type model struct {
	most     int
	all      map[int64]api.Snap
	gone     map[int64]bool
	taken    int
	refusals [40]int
}

// here are the snapshots that are kept, by rising ticks.
func (m *model) here() []api.Snap {
	var list []api.Snap
	for tick, x := range m.all {
		if !m.gone[tick] {
			list = append(list, x)
		}
	}
	slices.SortFunc(list, func(a, b api.Snap) int { return int(a.Tick - b.Tick) })
	return list
}

// why is what is wrong with bytes, or the snapshot that they tell.
func (m *model) why(b []byte) (api.Snap, api.Errno) {
	g, e := gram.Read(b)
	if e != api.OK {
		return api.Snap{}, e
	}
	here := m.here()
	for _, x := range here {
		if x.Tick == g.Tick {
			return api.Snap{}, api.ErrDup
		}
	}
	for tick := range m.gone {
		if tick >= g.Tick {
			return api.Snap{}, api.ErrStale
		}
	}
	if len(here) == m.most && here[0].Tick > g.Tick {
		return api.Snap{}, api.ErrStale
	}
	base, ok := m.all[g.Base]
	if g.Base != none && (!ok || m.gone[g.Base]) {
		return api.Snap{}, api.ErrBase
	}
	x, e := delta.Apply(base, g)
	if e != api.OK {
		return api.Snap{}, e
	}
	// As the times of those that are here rise, a neighbour's bound holds for all on its side.
	for _, y := range here {
		if y.Tick < x.Tick && y.Time >= x.Time || y.Tick > x.Tick && y.Time <= x.Time {
			return api.Snap{}, api.ErrTime
		}
	}
	return x, api.OK
}

func (m *model) accept(b []byte) (int64, api.Errno) {
	x, e := m.why(b)
	if e != api.OK {
		m.refusals[e]++
		return 0, e
	}
	m.taken++
	m.all[x.Tick] = x
	if here := m.here(); len(here) > m.most {
		m.gone[here[0].Tick] = true
	}
	return x.Tick, api.OK
}

// server is one side of a random run: snapshots of rising ticks and times, and the bytes that tell them.
type server struct {
	snaps []api.Snap
	sent  [][]byte
}

// next makes another snapshot of the last one, and bytes that tell it by an earlier one, or by none.
func (v *server) next(t *testing.T, chance *rand.Rand) {
	t.Helper()
	var x api.Snap
	if n := len(v.snaps); n > 0 {
		x = v.snaps[n-1]
		x.Tick += 1 + int64(chance.IntN(3))
		x.Time += 1 + int64(chance.IntN(20))
	} else {
		x.Tick, x.Time = int64(chance.IntN(4)), int64(chance.IntN(100)-50)
	}
	x.Ents = moved(chance, x.Ents)
	v.snaps = append(v.snaps, x)
	g, e := v.tell(chance, x)
	if e != api.OK {
		t.Fatalf("%v: %v", x, e)
	}
	v.sent = append(v.sent, written(t, g))
}

// tell is a datagram of the newest snapshot: mostly by a recent one, if there is such a datagram, else by none. None tells a Gen there, so the snapshot's are set to 0 then.
func (v *server) tell(chance *rand.Rand, x api.Snap) (api.Gram, api.Errno) {
	if n := len(v.snaps) - 1; n > 0 && chance.IntN(4) > 0 {
		if g, e := delta.Diff(v.snaps[max(0, n-1-chance.IntN(3))], x); e == api.OK {
			return g, e
		}
	}
	for i := range x.Ents {
		x.Ents[i].Gen = 0
	}
	return delta.Full(x)
}

// moved are entities of which some came, went, went on, or are elsewhere at once.
func moved(chance *rand.Rand, ahead []api.Entity) []api.Entity {
	var all []api.Entity
	for id := range 8 {
		at := slices.IndexFunc(ahead, func(x api.Entity) bool { return x.Id == id })
		switch does := chance.IntN(10); {
		case at < 0 && does < 3:
			all = append(all, api.Entity{Id: id, Pos: [3]int64{chance.Int64()}, Angle: uint16(chance.IntN(1 << 16))})
		case at >= 0 && does > 0:
			x := ahead[at]
			if does > 5 {
				x.Pos[1] += int64(chance.IntN(9) - 4)
				x.Vel[2]++
			}
			if does == 9 {
				x.Gen++
			}
			all = append(all, x)
		}
	}
	return all
}

// P12.1, P12.3: a server's bytes, lost, doubled, turned about and spoilt: what is kept is what the server has, in order, and is as the model has it.
func TestServer(t *testing.T) {
	chance := rand.New(rand.NewPCG(12, 1))
	seen := map[api.Errno]int{}
	for range tries {
		most := 1 + chance.IntN(6)
		s, m, v := made(t, most), &model{most: most, all: map[int64]api.Snap{}, gone: map[int64]bool{}}, &server{}
		for range 30 {
			v.next(t, chance)
			if chance.IntN(5) == 0 {
				continue
			}
			b := slices.Clone(v.sent[max(0, len(v.sent)-1-chance.IntN(1+chance.IntN(6)))])
			if chance.IntN(10) == 0 {
				b[chance.IntN(len(b))] ^= 1 << chance.IntN(8)
			}
			seen[both(t, s, m, b)]++
			for i := range s.Len() {
				x, _ := s.At(i)
				if !slices.ContainsFunc(v.snaps, func(y api.Snap) bool { return same(x, y) }) {
					t.Fatalf("%v is kept, but the server has %v", x, v.snaps)
				}
			}
		}
	}
	for _, e := range []api.Errno{api.OK, api.ErrDup, api.ErrStale, api.ErrBase, api.ErrSum} {
		if seen[e] < 500 {
			t.Errorf("%v came %d times only", e, seen[e])
		}
	}
}

// both holds that a store and its model do the same with bytes, and stand the same then; it tells the error.
func both(t *testing.T, s *Store, m *model, b []byte) api.Errno {
	t.Helper()
	want, wantE := m.accept(b)
	k, e := s.Accept(b)
	if k != want || e != wantE {
		t.Fatalf("Accept(%v) = %d, %v, want %d, %v; kept: %v", b, k, e, want, wantE, m.here())
	}
	here := m.here()
	stands(t, s, here...)
	for i := 1; i < len(here); i++ {
		if here[i-1].Tick >= here[i].Tick || here[i-1].Time >= here[i].Time {
			t.Fatalf("out of order: %v", here)
		}
	}
	for tick := range m.gone {
		lacks(t, s, tick)
	}
	if s.Taken() != m.taken || refusals(s) != m.refusals {
		t.Fatalf("counts: %d, %v, want %d, %v", s.Taken(), refusals(s), m.taken, m.refusals)
	}
	return e
}

// anything is a datagram of which each part may be wrong.
func anything(chance *rand.Rand) api.Gram {
	g := api.Gram{Tick: int64(chance.IntN(14)), Base: none}
	g.Time = g.Tick*10 + int64(chance.IntN(25)-12)
	if g.Tick > 0 && chance.IntN(3) > 0 {
		g.Base = max(0, g.Tick-1-int64(chance.IntN(4)))
	}
	if chance.IntN(40) == 0 {
		g.Base, g.Records = none, puts(60+chance.IntN(9))
	}
	for id := range 3 {
		if len(g.Records) == id && chance.IntN(5) == 0 {
			r := api.Record{Kind: chance.IntN(4), Id: id}
			if r.Kind != api.Remove {
				r.Angle = 1
			}
			g.Records = append(g.Records, r)
		}
	}
	return g
}

// P12.1, P12.2, P12.3: datagrams that have nothing to do with each other, against the model.
func TestModel(t *testing.T) {
	chance := rand.New(rand.NewPCG(12, 2))
	seen := map[api.Errno]int{}
	for range 5 * tries {
		most := 1 + chance.IntN(5)
		s, m := made(t, most), &model{most: most, all: map[int64]api.Snap{}, gone: map[int64]bool{}}
		for range 20 {
			seen[both(t, s, m, written(t, anything(chance)))]++
		}
	}
	for _, e := range []api.Errno{api.OK, api.ErrDup, api.ErrStale, api.ErrBase, api.ErrApply, api.ErrFull, api.ErrTime} {
		if seen[e] < 500 {
			t.Errorf("%v came %d times only", e, seen[e])
		}
	}
}

// P2: two stores have nothing to do with one another.
func TestApart(t *testing.T) {
	one, two := filled(t, 2, 1, 2, 3), made(t, 2)
	accept(t, one, nil, 0, api.ErrSum)
	stands(t, two)
	if n := two.Taken(); n != 0 || refusals(two) != [40]int{} {
		t.Errorf("counts of the other: %d, %v", n, refusals(two))
	}
	accept(t, two, data(t, 4, 40, 3), 0, api.ErrBase)
	accept(t, two, data(t, 1, 99, none), 1, api.OK)
	stands(t, one, plain(2, 3)...)
	stands(t, two, api.Snap{Tick: 1, Time: 99})
}

// Rule 6: stores, each used by one goroutine, may be made and used by many at a time, of the same bytes.
func TestManyAtATime(t *testing.T) {
	var all [][]byte
	for tick := range int64(100) {
		all = append(all, data(t, tick, tick*10, none, puts(3)...))
	}
	var group sync.WaitGroup
	for i := range api.MaxRing {
		group.Go(func() {
			s, e := New(i + 1)
			if e != api.OK {
				t.Errorf("New(%d): %v", i+1, e)
				return
			}
			for _, b := range all {
				s.Accept(b)
				s.Accept(b)
			}
			if x, e := s.At(i); x.Tick != 99 || e != api.OK || s.Len() != i+1 || s.Taken() != 100 || s.Refused(api.ErrDup) != 100 {
				t.Errorf("At(%d) = %v, %v of %d", i, x, e, s.Len())
			}
		})
	}
	group.Wait()
}
