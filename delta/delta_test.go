package delta

import (
	"math"
	"math/rand/v2"
	"slices"
	"sync"
	"testing"

	"afterimage/api"
	"afterimage/gram"
)

const tries = 20000

type vec = [3]int64

// same tells whether two snapshots are: whether a list without elements is nil plays no part.
func same(a, b api.Snap) bool {
	return a.Tick == b.Tick && a.Time == b.Time && slices.Equal(a.Ents, b.Ents)
}

// sameGram tells likewise of two datagrams.
func sameGram(a, b api.Gram) bool {
	return a.Tick == b.Tick && a.Time == b.Time && a.Base == b.Base && slices.Equal(a.Records, b.Records)
}

// row are n entities, of the Ids first, first and by, and so on.
func row(n, first, by int) []api.Entity {
	var all []api.Entity
	for i := range n {
		all = append(all, api.Entity{Id: first + i*by})
	}
	return all
}

// ids are entities of these Ids.
func ids(list ...int) []api.Entity {
	var all []api.Entity
	for _, id := range list {
		all = append(all, api.Entity{Id: id})
	}
	return all
}

// list are n records of a kind, of the Ids first, first and by, and so on.
func list(kind, n, first, by int) []api.Record {
	var all []api.Record
	for i := range n {
		all = append(all, api.Record{Kind: kind, Id: first + i*by})
	}
	return all
}

// P10.1: Check's edges, each of its errors, and which one goes ahead.
func TestCheck(t *testing.T) {
	for _, c := range []struct {
		s    api.Snap
		want api.Errno
	}{
		{api.Snap{}, api.OK}, {api.Snap{Tick: api.MaxTick, Time: api.MaxTime}, api.OK}, {api.Snap{Tick: 1, Time: -api.MaxTime}, api.OK}, {api.Snap{Ents: []api.Entity{}}, api.OK},
		{api.Snap{Ents: ids(0)}, api.OK}, {api.Snap{Ents: ids(api.MaxId)}, api.OK}, {api.Snap{Ents: ids(0, 1, 2, 9, api.MaxId)}, api.OK}, {api.Snap{Ents: row(64, 0, 1)}, api.OK}, {api.Snap{Ents: row(64, api.MaxId-63, 1)}, api.OK},
		{api.Snap{Ents: []api.Entity{{Id: 3, Pos: vec{math.MinInt64, 0, math.MaxInt64}, Vel: vec{math.MaxInt64, -1, math.MinInt64}, Angle: 65535, Gen: 255}}}, api.OK},
		{api.Snap{Tick: -1}, api.ErrRange}, {api.Snap{Tick: api.MaxTick + 1}, api.ErrRange}, {api.Snap{Tick: math.MinInt64}, api.ErrRange}, {api.Snap{Tick: math.MaxInt64}, api.ErrRange},
		{api.Snap{Time: api.MaxTime + 1}, api.ErrRange}, {api.Snap{Time: -api.MaxTime - 1}, api.ErrRange}, {api.Snap{Time: math.MinInt64}, api.ErrRange}, {api.Snap{Time: math.MaxInt64}, api.ErrRange},
		{api.Snap{Ents: row(65, 0, 1)}, api.ErrFull}, {api.Snap{Ents: row(1000, 0, 1)}, api.ErrFull},
		{api.Snap{Ents: ids(-1)}, api.ErrRange}, {api.Snap{Ents: ids(api.MaxId + 1)}, api.ErrRange}, {api.Snap{Ents: ids(math.MinInt)}, api.ErrRange}, {api.Snap{Ents: ids(math.MaxInt)}, api.ErrRange}, {api.Snap{Ents: ids(1, 2, -3)}, api.ErrRange}, {api.Snap{Ents: row(64, api.MaxId-62, 1)}, api.ErrRange},
		{api.Snap{Ents: ids(0, 0)}, api.ErrOrder}, {api.Snap{Ents: ids(5, 4)}, api.ErrOrder}, {api.Snap{Ents: ids(1, 5, 3)}, api.ErrOrder}, {api.Snap{Ents: ids(api.MaxId, api.MaxId)}, api.ErrOrder}, {api.Snap{Ents: ids(api.MaxId, 0)}, api.ErrOrder}, {api.Snap{Ents: ids(1, 2, 3, 4, 4)}, api.ErrOrder}, {api.Snap{Ents: make([]api.Entity, 64)}, api.ErrOrder},
		// the first of several
		{api.Snap{Tick: -1, Ents: row(65, 0, 1)}, api.ErrRange}, {api.Snap{Time: math.MaxInt64, Ents: row(65, 0, 1)}, api.ErrRange}, {api.Snap{Tick: -1, Ents: ids(5, 4)}, api.ErrRange},
		{api.Snap{Ents: row(65, -1, 1)}, api.ErrFull}, {api.Snap{Ents: make([]api.Entity, 65)}, api.ErrFull},
		{api.Snap{Ents: ids(5, -1)}, api.ErrRange}, {api.Snap{Ents: ids(5, 5, -1)}, api.ErrOrder}, {api.Snap{Ents: ids(5, 4, api.MaxId+1)}, api.ErrOrder}, {api.Snap{Ents: ids(5, api.MaxId+1, 4)}, api.ErrRange}, {api.Snap{Ents: ids(-1, -1)}, api.ErrRange},
	} {
		if e := Check(c.s); e != c.want {
			t.Errorf("Check(%v) = %v, want %v", c.s, e, c.want)
		}
	}
}

// P10.1: Find, also in a snapshot that may not be.
func TestFind(t *testing.T) {
	s := api.Snap{Tick: -5, Ents: []api.Entity{{Id: 7, Angle: 1}, {Id: 0, Angle: 2}, {Id: 7, Angle: 3}, {Id: -4, Angle: 4, Gen: 9}, {Id: math.MaxInt, Angle: 5}, {Id: 3, Pos: vec{1, 2, 3}, Vel: vec{4, 5, 6}}}}
	for _, c := range []struct {
		id   int
		want api.Entity
		ok   bool
	}{
		{7, s.Ents[0], true}, {0, s.Ents[1], true}, {-4, s.Ents[3], true}, {math.MaxInt, s.Ents[4], true}, {3, s.Ents[5], true},
		{1, api.Entity{}, false}, {-1, api.Entity{}, false}, {8, api.Entity{}, false}, {math.MinInt, api.Entity{}, false},
	} {
		if x, ok := Find(s, c.id); x != c.want || ok != c.ok {
			t.Errorf("Find(%v, %d) = %v, %v, want %v, %v", s, c.id, x, ok, c.want, c.ok)
		}
	}
	if x, ok := Find(api.Snap{}, 0); x != (api.Entity{}) || ok {
		t.Errorf("Find in none = %v, %v", x, ok)
	}
}

// makes holds that Diff of a and b is want, and that this makes b of a.
func makes(t *testing.T, a, b api.Snap, want api.Gram) {
	t.Helper()
	if g, e := Diff(a, b); !sameGram(g, want) || e != api.OK {
		t.Errorf("Diff(%v, %v) = %v, %v, want %v", a, b, g, e, want)
	}
	if s, e := Apply(a, want); !same(s, b) || e != api.OK {
		t.Errorf("Apply(%v, %v) = %v, %v, want %v", a, want, s, e, b)
	}
}

// P10.2, P10.3: the chapter's example, and others by hand.
func TestDiff(t *testing.T) {
	one := api.Entity{Id: 6, Pos: vec{1, 2, 3}, Vel: vec{4, 5, 6}, Angle: 7}
	put := api.Record{Kind: api.Put, Id: 6, Pos: vec{1, 2, 3}, Vel: vec{4, 5, 6}, Angle: 7}
	makes(t, api.Snap{}, api.Snap{Tick: 1, Ents: []api.Entity{one}}, api.Gram{Tick: 1, Base: 0, Records: []api.Record{put}})
	makes(t, api.Snap{Tick: 1, Ents: []api.Entity{one}}, api.Snap{Tick: 2}, api.Gram{Tick: 2, Base: 1, Records: list(api.Remove, 1, 6, 1)})
	makes(t, api.Snap{Tick: 1, Time: 5, Ents: []api.Entity{one}}, api.Snap{Tick: 9, Time: -5, Ents: []api.Entity{one}}, api.Gram{Tick: 9, Time: -5, Base: 1})
	makes(t, api.Snap{Time: api.MaxTime}, api.Snap{Tick: api.MaxTick, Time: -api.MaxTime}, api.Gram{Tick: api.MaxTick, Time: -api.MaxTime, Base: 0})
	makes(t, api.Snap{Tick: api.MaxTick - 1}, api.Snap{Tick: api.MaxTick}, api.Gram{Tick: api.MaxTick, Base: api.MaxTick - 1})
	// an entity that goes may have any Gen
	makes(t, api.Snap{Ents: []api.Entity{{Id: 1, Gen: 77}}}, api.Snap{Tick: 1}, api.Gram{Tick: 1, Records: list(api.Remove, 1, 1, 1)})
	a := api.Snap{Tick: 3, Ents: []api.Entity{{Id: 0, Gen: 9}, {Id: 2, Pos: vec{math.MaxInt64, 0, 5}, Angle: 65000, Gen: 4}, {Id: 3, Gen: 255, Vel: vec{1, 1, 1}}, {Id: 4, Gen: 255}, {Id: 8, Gen: 1}, {Id: api.MaxId, Angle: 3}}}
	b := api.Snap{Tick: 5, Time: 1, Ents: []api.Entity{{Id: 1, Angle: 9}, {Id: 2, Pos: vec{math.MinInt64, 0, 3}, Angle: 100, Gen: 4}, {Id: 3, Vel: vec{1, 1, 1}}, {Id: 4, Angle: 1, Gen: 255}, {Id: 8, Gen: 1}, {Id: 9}, {Id: 500, Vel: vec{-1, 0, 0}}}}
	makes(t, a, b, api.Gram{Tick: 5, Time: 1, Base: 3, Records: []api.Record{
		{Kind: api.Remove, Id: 0},
		{Kind: api.Put, Id: 1, Angle: 9},
		{Kind: api.Update, Id: 2, Pos: vec{1, 0, -2}, Angle: 636},
		{Kind: api.Teleport, Id: 3, Vel: vec{1, 1, 1}},
		{Kind: api.Update, Id: 4, Angle: 1},
		{Kind: api.Put, Id: 9},
		{Kind: api.Put, Id: 500, Vel: vec{-1, 0, 0}},
		{Kind: api.Remove, Id: api.MaxId},
	}})
}

// P10.2, P10.3: as many records as there may be: all go, and as many others come.
func TestDiffMost(t *testing.T) {
	a := api.Snap{Tick: 1, Ents: row(64, 1, 2)}
	for _, b := range []api.Snap{{Tick: 2, Ents: row(64, 0, 2)}, {Tick: 2, Ents: row(64, 1000, 1)}, {Tick: 2, Ents: row(64, 2, 2)}} {
		var want []api.Record
		for id := range 2000 {
			if _, ok := Find(a, id); ok {
				want = append(want, api.Record{Kind: api.Remove, Id: id})
			}
			if _, ok := Find(b, id); ok {
				want = append(want, api.Record{Kind: api.Put, Id: id})
			}
		}
		if len(want) != gram.Most() {
			t.Fatalf("%d records", len(want))
		}
		makes(t, a, b, api.Gram{Tick: 2, Base: 1, Records: want})
	}
}

// P10.2: Full by hand: also of tick 0.
func TestFull(t *testing.T) {
	for _, c := range []struct {
		b    api.Snap
		want api.Gram
	}{
		{api.Snap{}, api.Gram{Base: -1}},
		{api.Snap{Tick: api.MaxTick, Time: -api.MaxTime}, api.Gram{Tick: api.MaxTick, Time: -api.MaxTime, Base: -1}},
		{api.Snap{Tick: 7, Time: 8, Ents: []api.Entity{{Id: 0}, {Id: 4, Pos: vec{1, 2, 3}, Vel: vec{-4, 5, 6}, Angle: 7}, {Id: api.MaxId, Angle: 65535}}}, api.Gram{Tick: 7, Time: 8, Base: -1, Records: []api.Record{{Id: 0}, {Id: 4, Pos: vec{1, 2, 3}, Vel: vec{-4, 5, 6}, Angle: 7}, {Id: api.MaxId, Angle: 65535}}}},
		{api.Snap{Ents: row(64, 3, 7)}, api.Gram{Base: -1, Records: list(api.Put, 64, 3, 7)}},
	} {
		if g, e := Full(c.b); !sameGram(g, c.want) || e != api.OK {
			t.Errorf("Full(%v) = %v, %v, want %v", c.b, g, e, c.want)
		}
		if s, e := Apply(api.Snap{Tick: 9, Ents: row(64, 0, 1)}, c.want); !same(s, c.b) || e != api.OK {
			t.Errorf("Apply(.., %v) = %v, %v, want %v", c.want, s, e, c.b)
		}
	}
}

// P10.2: Diff's errors, and which one goes ahead.
func TestDiffFails(t *testing.T) {
	a := api.Snap{Tick: 5, Ents: []api.Entity{{Id: 3, Gen: 7}}}
	jump := api.Snap{Tick: 6, Ents: []api.Entity{{Id: 3, Gen: 9}}}
	for _, c := range []struct {
		a, b api.Snap
		want api.Errno
	}{
		{api.Snap{Tick: -1}, jump, api.ErrRange}, {api.Snap{Ents: row(65, 0, 1)}, jump, api.ErrFull}, {api.Snap{Ents: ids(2, 2)}, jump, api.ErrOrder}, {api.Snap{Ents: ids(-1)}, jump, api.ErrRange},
		{a, api.Snap{Tick: api.MaxTick + 1}, api.ErrRange}, {a, api.Snap{Tick: 6, Time: math.MaxInt64}, api.ErrRange}, {a, api.Snap{Tick: 6, Ents: row(65, 0, 1)}, api.ErrFull}, {a, api.Snap{Tick: 6, Ents: ids(2, 1)}, api.ErrOrder}, {a, api.Snap{Tick: 6, Ents: ids(3, api.MaxId+1)}, api.ErrRange},
		{a, a, api.ErrOrder}, {a, api.Snap{Tick: 4}, api.ErrOrder}, {a, api.Snap{Tick: 5}, api.ErrOrder}, {api.Snap{}, api.Snap{}, api.ErrOrder}, {api.Snap{Tick: api.MaxTick}, api.Snap{}, api.ErrOrder},
		{a, jump, api.ErrApply}, {a, api.Snap{Tick: 6, Ents: []api.Entity{{Id: 3, Gen: 6}}}, api.ErrApply}, {a, api.Snap{Tick: 6, Ents: []api.Entity{{Id: 3}}}, api.ErrApply},
		{a, api.Snap{Tick: 6, Ents: []api.Entity{{Id: 2, Gen: 1}}}, api.ErrApply}, {a, api.Snap{Tick: 6, Ents: []api.Entity{{Id: 3, Gen: 7}, {Id: 4, Gen: 7}}}, api.ErrApply}, {a, api.Snap{Tick: 6, Ents: []api.Entity{{Id: 4, Gen: 255}}}, api.ErrApply},
		// a's, then b's, then the ticks', then the entities'
		{api.Snap{Ents: row(65, 0, 1)}, api.Snap{Tick: -1}, api.ErrFull}, {api.Snap{Tick: -1}, api.Snap{Ents: row(65, 0, 1)}, api.ErrRange}, {api.Snap{Tick: math.MaxInt64}, api.Snap{}, api.ErrRange},
		{a, api.Snap{Tick: 5, Ents: row(65, 0, 1)}, api.ErrFull}, {a, api.Snap{Tick: -1}, api.ErrRange}, {a, api.Snap{Tick: 5, Ents: ids(-1)}, api.ErrRange}, {a, api.Snap{Tick: 6, Ents: []api.Entity{{Id: 3, Gen: 9}, {Id: -1}}}, api.ErrRange},
		{a, api.Snap{Tick: 5, Ents: jump.Ents}, api.ErrOrder}, {a, api.Snap{Tick: 6, Ents: []api.Entity{{Id: 3, Gen: 9}, {Id: 3}}}, api.ErrOrder},
	} {
		if g, e := Diff(c.a, c.b); !sameGram(g, api.Gram{}) || e != c.want {
			t.Errorf("Diff(%v, %v) = %v, %v, want none, %v", c.a, c.b, g, e, c.want)
		}
	}
	for _, c := range []struct {
		b    api.Snap
		want api.Errno
	}{
		{api.Snap{Tick: -1}, api.ErrRange}, {api.Snap{Time: -api.MaxTime - 1}, api.ErrRange}, {api.Snap{Ents: row(65, 0, 1)}, api.ErrFull}, {api.Snap{Ents: ids(4, 4)}, api.ErrOrder},
		{a, api.ErrApply}, {jump, api.ErrApply}, {api.Snap{Ents: []api.Entity{{Id: 1}, {Id: 2, Gen: 255}}}, api.ErrApply}, {api.Snap{Ents: []api.Entity{{Id: 1, Gen: 1}}}, api.ErrApply},
		{api.Snap{Tick: -1, Ents: a.Ents}, api.ErrRange}, {api.Snap{Ents: []api.Entity{{Id: 3, Gen: 9}, {Id: 3}}}, api.ErrOrder},
	} {
		if g, e := Full(c.b); !sameGram(g, api.Gram{}) || e != c.want {
			t.Errorf("Full(%v) = %v, %v, want none, %v", c.b, g, e, c.want)
		}
	}
}

// P10.2, P10.3: each Gen behind each other one, of an entity that both have, and of one that is new.
func TestGens(t *testing.T) {
	for was := range 256 {
		for is := range 256 {
			a := api.Snap{Ents: []api.Entity{{Id: 5, Gen: uint8(was)}}}
			b := api.Snap{Tick: 1, Ents: []api.Entity{{Id: 5, Gen: uint8(is)}}}
			want, wantE := api.Gram{Tick: 1}, api.OK
			if is == (was+1)%256 {
				want.Records = list(api.Teleport, 1, 5, 1)
			} else if is != was {
				want, wantE = api.Gram{}, api.ErrApply
			}
			g, e := Diff(a, b)
			if !sameGram(g, want) || e != wantE {
				t.Fatalf("Gen %d behind %d: %v, %v, want %v, %v", is, was, g, e, want, wantE)
			}
			if s, e := Apply(a, g); wantE == api.OK && (!same(s, b) || e != api.OK) {
				t.Fatalf("Gen %d behind %d: made %v, %v", is, was, s, e)
			}
		}
		b := api.Snap{Tick: 1, Ents: []api.Entity{{Id: 5, Gen: uint8(was)}}}
		wantE := api.OK
		if was > 0 {
			wantE = api.ErrApply
		}
		_, fullE := Full(b)
		if _, e := Diff(api.Snap{Ents: ids(4, 6)}, b); e != wantE || fullE != wantE {
			t.Fatalf("Gen %d of a new one: %v, %v, want %v", was, e, fullE, wantE)
		}
	}
}

// P10.3: Apply by hand, where no Diff would be that datagram.
func TestApply(t *testing.T) {
	a := api.Snap{Tick: 5, Time: 50, Ents: []api.Entity{{Id: 2, Gen: 255, Pos: vec{math.MaxInt64, 1, 1}, Angle: 65535}, {Id: 9, Gen: 3}}}
	full := api.Snap{Tick: 5, Ents: row(64, 1, 1)}
	for _, c := range []struct {
		a    api.Snap
		g    api.Gram
		want api.Snap
	}{
		{a, api.Gram{Tick: 6, Base: 5}, api.Snap{Tick: 6, Ents: a.Ents}},
		{a, api.Gram{Tick: 6, Time: 9, Base: 5, Records: []api.Record{{Kind: api.Update, Id: 2, Pos: vec{1, -1, 0}, Vel: vec{0, 0, 7}, Angle: 1}, {Kind: api.Teleport, Id: 9}}}, api.Snap{Tick: 6, Time: 9, Ents: []api.Entity{{Id: 2, Gen: 255, Pos: vec{math.MinInt64, 0, 1}, Vel: vec{0, 0, 7}}, {Id: 9, Gen: 4}}}},
		{a, api.Gram{Tick: 6, Base: 5, Records: []api.Record{{Id: 0, Angle: 2}, {Kind: api.Teleport, Id: 2, Vel: vec{1, 2, 3}}, {Id: 5}, {Kind: api.Remove, Id: 9}, {Id: api.MaxId}}}, api.Snap{Tick: 6, Ents: []api.Entity{{Id: 0, Angle: 2}, {Id: 2, Vel: vec{1, 2, 3}}, {Id: 5}, {Id: api.MaxId}}}},
		// of the Base -1 a plays no part, whatever it is
		{a, api.Gram{Tick: 5, Base: -1, Records: list(api.Put, 2, 2, 7)}, api.Snap{Tick: 5, Ents: ids(2, 9)}}, {a, api.Gram{Tick: 0, Base: -1}, api.Snap{}},
		{api.Snap{Tick: -1}, api.Gram{Tick: 3, Base: -1}, api.Snap{Tick: 3}}, {api.Snap{Tick: -1, Ents: ids(5, 5)}, api.Gram{Tick: 3, Base: -1, Records: list(api.Put, 1, 5, 1)}, api.Snap{Tick: 3, Ents: ids(5)}},
		{full, api.Gram{Tick: 3, Base: -1, Records: list(api.Put, 64, 0, 3)}, api.Snap{Tick: 3, Ents: row(64, 0, 3)}}, {api.Snap{Ents: row(65, 0, 1)}, api.Gram{Tick: 3, Base: -1, Records: list(api.Put, 64, 0, 1)}, api.Snap{Tick: 3, Ents: row(64, 0, 1)}},
		// more than MaxEnts in between, but not then
		{full, api.Gram{Tick: 6, Base: 5, Records: []api.Record{{Id: 0}, {Kind: api.Remove, Id: 64}}}, api.Snap{Tick: 6, Ents: row(64, 0, 1)}},
		{full, api.Gram{Tick: 6, Base: 5, Records: []api.Record{{Kind: api.Remove, Id: 1}, {Id: 65}}}, api.Snap{Tick: 6, Ents: row(64, 2, 1)}},
	} {
		if s, e := Apply(c.a, c.g); !same(s, c.want) || e != api.OK {
			t.Errorf("Apply(%v, %v) = %v, %v, want %v", c.a, c.g, s, e, c.want)
		}
	}
}

// P10.3: Apply's errors, and which one goes ahead.
func TestApplyFails(t *testing.T) {
	a := api.Snap{Tick: 5, Ents: ids(2, 9)}
	full := api.Snap{Tick: 5, Ents: row(64, 1, 1)}
	broken := api.Snap{Tick: 5, Ents: ids(2, 2)}
	turn := func(id int) []api.Record { return []api.Record{{Kind: api.Update, Id: id, Angle: 1}} }
	for _, c := range []struct {
		a    api.Snap
		g    api.Gram
		want api.Errno
	}{
		// the datagram's
		{a, api.Gram{Tick: -1, Base: -1}, api.ErrRange}, {a, api.Gram{Tick: 6, Time: math.MinInt64, Base: 5}, api.ErrRange}, {a, api.Gram{Tick: 6, Base: -2}, api.ErrRange}, {a, api.Gram{Tick: 5, Base: 5}, api.ErrOrder}, {a, api.Gram{Tick: 4, Base: 5}, api.ErrOrder},
		{a, api.Gram{Tick: 6, Base: 5, Records: list(api.Remove, 129, 0, 1)}, api.ErrLong}, {a, api.Gram{Tick: 6, Base: 5, Records: list(4, 1, 2, 1)}, api.ErrKind}, {a, api.Gram{Tick: 6, Base: 5, Records: list(api.Update, 1, 2, 1)}, api.ErrArg}, {a, api.Gram{Tick: 6, Base: 5, Records: list(api.Remove, 2, 2, 0)}, api.ErrOrder}, {a, api.Gram{Tick: 6, Base: 5, Records: list(api.Put, 1, -1, 1)}, api.ErrRange},
		// a's
		{broken, api.Gram{Tick: 6, Base: 5}, api.ErrOrder}, {api.Snap{Tick: 5, Ents: row(65, 0, 1)}, api.Gram{Tick: 6, Base: 5}, api.ErrFull}, {api.Snap{Tick: 5, Time: math.MaxInt64}, api.Gram{Tick: 6, Base: 5}, api.ErrRange}, {api.Snap{Tick: 5, Ents: ids(-1)}, api.Gram{Tick: 6, Base: 5}, api.ErrRange}, {api.Snap{Tick: -1}, api.Gram{Tick: 6, Base: 0}, api.ErrRange},
		// the Base
		{a, api.Gram{Tick: 6, Base: 4}, api.ErrBase}, {a, api.Gram{Tick: 9, Base: 6}, api.ErrBase}, {a, api.Gram{Tick: 6, Base: 0}, api.ErrBase}, {api.Snap{}, api.Gram{Tick: 6, Base: 5}, api.ErrBase}, {api.Snap{Tick: 7}, api.Gram{Tick: 6, Base: 5}, api.ErrBase},
		// the records
		{a, api.Gram{Tick: 6, Base: 5, Records: list(api.Put, 1, 2, 1)}, api.ErrApply}, {a, api.Gram{Tick: 6, Base: 5, Records: list(api.Put, 1, 9, 1)}, api.ErrApply}, {a, api.Gram{Tick: 6, Base: 5, Records: list(api.Put, 2, 1, 1)}, api.ErrApply},
		{a, api.Gram{Tick: 6, Base: 5, Records: list(api.Remove, 1, 3, 1)}, api.ErrApply}, {a, api.Gram{Tick: 6, Base: 5, Records: list(api.Remove, 2, 2, 1)}, api.ErrApply}, {a, api.Gram{Tick: 6, Base: 5, Records: list(api.Teleport, 1, 0, 1)}, api.ErrApply}, {a, api.Gram{Tick: 6, Base: 5, Records: turn(8)}, api.ErrApply}, {a, api.Gram{Tick: 6, Base: 5, Records: turn(api.MaxId)}, api.ErrApply},
		{a, api.Gram{Tick: 6, Base: -1, Records: list(api.Remove, 1, 2, 1)}, api.ErrApply}, {a, api.Gram{Tick: 6, Base: -1, Records: list(api.Teleport, 1, 2, 1)}, api.ErrApply}, {a, api.Gram{Tick: 6, Base: -1, Records: turn(9)}, api.ErrApply}, {a, api.Gram{Tick: 6, Base: -1, Records: append(list(api.Put, 1, 3, 1), turn(9)...)}, api.ErrApply},
		// too many
		{full, api.Gram{Tick: 6, Base: 5, Records: list(api.Put, 1, 0, 1)}, api.ErrFull}, {full, api.Gram{Tick: 6, Base: 5, Records: list(api.Put, 1, 65, 1)}, api.ErrFull}, {full, api.Gram{Tick: 6, Base: 5, Records: list(api.Put, 128, 65, 1)}, api.ErrFull}, {full, api.Gram{Tick: 6, Base: 5, Records: append(list(api.Remove, 1, 1, 1), list(api.Put, 2, 65, 1)...)}, api.ErrFull},
		{api.Snap{}, api.Gram{Tick: 6, Base: -1, Records: list(api.Put, 65, 0, 1)}, api.ErrFull}, {api.Snap{}, api.Gram{Tick: 6, Base: -1, Records: list(api.Put, 128, 0, 1)}, api.ErrFull},
		// the first of several
		{broken, api.Gram{Tick: -1, Base: 5}, api.ErrRange}, {broken, api.Gram{Tick: 6, Base: 5, Records: list(4, 1, 2, 1)}, api.ErrKind}, {a, api.Gram{Tick: 6, Base: 4, Records: list(api.Update, 1, 3, 1)}, api.ErrArg}, {a, api.Gram{Tick: 6, Base: 5, Records: []api.Record{{Id: 2}, {Kind: 9, Id: 3}}}, api.ErrKind},
		{broken, api.Gram{Tick: 6, Base: 4}, api.ErrOrder}, {api.Snap{Tick: 4, Ents: row(65, 0, 1)}, api.Gram{Tick: 6, Base: 5}, api.ErrFull}, {broken, api.Gram{Tick: 6, Base: 5, Records: list(api.Put, 1, 2, 1)}, api.ErrOrder},
		{a, api.Gram{Tick: 6, Base: 4, Records: list(api.Put, 1, 2, 1)}, api.ErrBase}, {full, api.Gram{Tick: 6, Base: 4, Records: list(api.Put, 1, 0, 1)}, api.ErrBase},
		{full, api.Gram{Tick: 6, Base: 5, Records: append(list(api.Put, 1, 0, 1), list(api.Remove, 1, 65, 1)...)}, api.ErrApply}, {api.Snap{}, api.Gram{Tick: 6, Base: -1, Records: append(list(api.Put, 65, 0, 1), list(api.Remove, 1, 65, 1)...)}, api.ErrApply},
	} {
		if s, e := Apply(c.a, c.g); !same(s, api.Snap{}) || e != c.want {
			t.Errorf("Apply(%v, %v) = %v, %v, want none, %v", c.a, c.g, s, e, c.want)
		}
	}
}

// number is one of any size, often 0.
func number(chance *rand.Rand) int64 {
	if chance.IntN(3) == 0 {
		return 0
	}
	return int64(chance.Uint64()) >> chance.IntN(64)
}

func vector(chance *rand.Rand) vec {
	return vec{number(chance), number(chance), number(chance)}
}

// someIds are up to n that rise, near one another or far apart.
func someIds(chance *rand.Rand, n int) []int {
	var all []int
	reach := 1 + api.MaxId>>chance.IntN(16)
	for range chance.IntN(n+1) >> chance.IntN(4) {
		all = append(all, chance.IntN(reach+1))
	}
	slices.Sort(all)
	return slices.Compact(slices.DeleteFunc(all, func(id int) bool { return id > api.MaxId }))
}

// some is a snapshot that may be, of a tick from 0 to greatest.
func some(chance *rand.Rand, greatest int64) api.Snap {
	s := api.Snap{Tick: chance.Int64N(greatest + 1), Time: number(chance) >> 2}
	for _, id := range someIds(chance, api.MaxEnts) {
		s.Ents = append(s.Ents, api.Entity{Id: id, Pos: vector(chance), Vel: vector(chance), Angle: uint16(number(chance)), Gen: uint8(number(chance))})
	}
	return s
}

// changed makes an entity another one of the same Id, mostly so that there is a record that tells it.
func changed(chance *rand.Rand, x api.Entity) api.Entity {
	for chance.IntN(2) > 0 {
		switch chance.IntN(4) {
		case 0:
			x.Pos[chance.IntN(3)] = number(chance)
		case 1:
			x.Vel[chance.IntN(3)] = number(chance)
		case 2:
			x.Angle = uint16(number(chance))
		case 3:
			x = api.Entity{Id: x.Id, Pos: vector(chance), Vel: vector(chance), Angle: x.Angle, Gen: x.Gen + 1}
		}
	}
	if chance.IntN(300) == 0 {
		x.Gen = uint8(chance.UintN(256))
	}
	return x
}

// next is a snapshot that mostly may follow a: some entities are others, some go, some come.
func next(chance *rand.Rand, a api.Snap) api.Snap {
	b := some(chance, 1)
	b.Tick = a.Tick + 1 + chance.Int64N(100)>>chance.IntN(8)
	for i := range b.Ents {
		if chance.IntN(300) > 0 {
			b.Ents[i].Gen = 0
		}
	}
	for _, x := range a.Ents {
		if chance.IntN(5) == 0 {
			continue
		}
		x = changed(chance, x)
		if i := place(b.Ents, x.Id); i >= 0 {
			b.Ents[i] = x
		} else {
			b.Ents = append(b.Ents, x)
		}
	}
	slices.SortFunc(b.Ents, func(x, y api.Entity) int { return x.Id - y.Id })
	if len(b.Ents) > api.MaxEnts && chance.IntN(20) > 0 {
		b.Ents = b.Ents[:api.MaxEnts]
	}
	return b
}

// spoil makes something in a snapshot others, so that it mostly may not be.
func spoil(chance *rand.Rand, s *api.Snap) {
	if n := len(s.Ents); n > 0 && chance.IntN(2) == 0 {
		x := &s.Ents[chance.IntN(n)]
		x.Id = int(number(chance))
		if chance.IntN(2) == 0 {
			x.Id = s.Ents[chance.IntN(n)].Id
		}
		return
	}
	switch chance.IntN(3) {
	case 0:
		s.Tick = number(chance)
	case 1:
		s.Time = number(chance)
	case 2:
		s.Ents = append(s.Ents, s.Ents...)
	}
}

// place is where the first entity of an Id is, or -1.
func place(list []api.Entity, id int) int {
	return slices.IndexFunc(list, func(x api.Entity) bool { return x.Id == id })
}

// modelCheck is Check by the chapter's words.
func modelCheck(s api.Snap) api.Errno {
	if s.Tick < 0 || s.Tick > 4294967295 {
		return api.ErrRange
	}
	if s.Time < -(1<<61) || s.Time > 1<<61 {
		return api.ErrRange
	}
	if len(s.Ents) > 64 {
		return api.ErrFull
	}
	for i, x := range s.Ents {
		if x.Id < 0 || x.Id > 65535 {
			return api.ErrRange
		}
		if i > 0 && x.Id <= s.Ents[i-1].Id {
			return api.ErrOrder
		}
	}
	return api.OK
}

// modelOne is the record that makes an entity of another one of its Id, by the chapters' words.
func modelOne(was, is api.Entity) (api.Record, bool) {
	if was == is {
		return api.Record{}, false
	}
	if was.Gen != is.Gen {
		return api.Record{Kind: 3, Id: is.Id, Pos: is.Pos, Vel: is.Vel, Angle: is.Angle}, true
	}
	r := api.Record{Kind: 1, Id: is.Id, Angle: is.Angle - was.Angle}
	for i := range 3 {
		r.Pos[i], r.Vel[i] = is.Pos[i]-was.Pos[i], is.Vel[i]-was.Vel[i]
	}
	return r, true
}

// modelTell are the records that make the entities b of a, by the chapter's words: both lists, that rise, are gone through side by side.
func modelTell(a, b []api.Entity) ([]api.Record, api.Errno) {
	var all []api.Record
	for len(a)+len(b) > 0 {
		switch {
		case len(b) == 0 || len(a) > 0 && a[0].Id < b[0].Id:
			all = append(all, api.Record{Kind: 2, Id: a[0].Id})
			a = a[1:]
		case len(a) == 0 || b[0].Id < a[0].Id:
			if b[0].Gen != 0 {
				return nil, api.ErrApply
			}
			all = append(all, api.Record{Kind: 0, Id: b[0].Id, Pos: b[0].Pos, Vel: b[0].Vel, Angle: b[0].Angle})
			b = b[1:]
		default:
			if on := (int(b[0].Gen) - int(a[0].Gen) + 256) % 256; on > 1 {
				return nil, api.ErrApply
			}
			if r, ok := modelOne(a[0], b[0]); ok {
				all = append(all, r)
			}
			a, b = a[1:], b[1:]
		}
	}
	return all, api.OK
}

// modelDiff is Diff by the chapter's words.
func modelDiff(a, b api.Snap) (api.Gram, api.Errno) {
	if e := modelCheck(a); e != api.OK {
		return api.Gram{}, e
	}
	if e := modelCheck(b); e != api.OK {
		return api.Gram{}, e
	}
	if b.Tick <= a.Tick {
		return api.Gram{}, api.ErrOrder
	}
	records, e := modelTell(a.Ents, b.Ents)
	if e != api.OK {
		return api.Gram{}, e
	}
	return api.Gram{Tick: b.Tick, Time: b.Time, Base: a.Tick, Records: records}, api.OK
}

// modelFull is Full by the chapter's words.
func modelFull(b api.Snap) (api.Gram, api.Errno) {
	if e := modelCheck(b); e != api.OK {
		return api.Gram{}, e
	}
	records, e := modelTell(nil, b.Ents)
	if e != api.OK {
		return api.Gram{}, e
	}
	return api.Gram{Tick: b.Tick, Time: b.Time, Base: -1, Records: records}, api.OK
}

// modelDo makes of a row of entities what a record tells.
func modelDo(ents []api.Entity, r api.Record) ([]api.Entity, api.Errno) {
	at := place(ents, r.Id)
	if (r.Kind == 0) != (at < 0) {
		return nil, api.ErrApply
	}
	switch r.Kind {
	case 0:
		return append(ents, api.Entity{Id: r.Id, Pos: r.Pos, Vel: r.Vel, Angle: r.Angle}), api.OK
	case 1:
		for i := range 3 {
			ents[at].Pos[i] += r.Pos[i]
			ents[at].Vel[i] += r.Vel[i]
		}
		ents[at].Angle += r.Angle
	case 2:
		return slices.Delete(ents, at, at+1), api.OK
	case 3:
		ents[at] = api.Entity{Id: r.Id, Pos: r.Pos, Vel: r.Vel, Angle: r.Angle, Gen: ents[at].Gen + 1}
	}
	return ents, api.OK
}

// modelApply is Apply by the chapter's words.
func modelApply(a api.Snap, g api.Gram) (api.Snap, api.Errno) {
	if e := gram.Check(g); e != api.OK {
		return api.Snap{}, e
	}
	var ents []api.Entity
	if g.Base != -1 {
		if e := modelCheck(a); e != api.OK {
			return api.Snap{}, e
		}
		if g.Base != a.Tick {
			return api.Snap{}, api.ErrBase
		}
		ents = slices.Clone(a.Ents)
	}
	for _, r := range g.Records {
		var e api.Errno
		if ents, e = modelDo(ents, r); e != api.OK {
			return api.Snap{}, e
		}
	}
	if len(ents) > 64 {
		return api.Snap{}, api.ErrFull
	}
	slices.SortFunc(ents, func(x, y api.Entity) int { return x.Id - y.Id })
	return api.Snap{Tick: g.Tick, Time: g.Time, Ents: ents}, api.OK
}

// often holds that each of these errors came.
func often(t *testing.T, seen map[api.Errno]int, errors ...api.Errno) {
	t.Helper()
	for _, e := range errors {
		if seen[e] < 50 {
			t.Errorf("%v came %d times only", e, seen[e])
		}
	}
}

// P10.1, P10.2, P10.4: Check, Diff and Full are what the models say, and what they tell makes b, also behind a way by bytes.
func TestDiffIsApplied(t *testing.T) {
	chance := rand.New(rand.NewPCG(10, 1))
	seen := map[api.Errno]int{}
	for range tries {
		a := some(chance, api.MaxTick-100)
		b := next(chance, a)
		switch chance.IntN(12) {
		case 0:
			spoil(chance, &a)
		case 1:
			spoil(chance, &b)
		case 2:
			a.Tick, b.Tick = b.Tick, a.Tick
		}
		beforeA, beforeB := slices.Clone(a.Ents), slices.Clone(b.Ents)
		if Check(a) != modelCheck(a) || Check(b) != modelCheck(b) {
			t.Fatalf("Check(%v) = %v, Check(%v) = %v", a, Check(a), b, Check(b))
		}
		want, wantE := modelDiff(a, b)
		g, e := Diff(a, b)
		if !sameGram(g, want) || e != wantE {
			t.Fatalf("Diff(%v, %v) = %v, %v, want %v, %v", a, b, g, e, want, wantE)
		}
		full, fullE := Full(b)
		if want, wantE := modelFull(b); !sameGram(full, want) || fullE != wantE {
			t.Fatalf("Full(%v) = %v, %v, want %v, %v", b, full, fullE, want, wantE)
		}
		if !slices.Equal(a.Ents, beforeA) || !slices.Equal(b.Ents, beforeB) {
			t.Fatalf("what was handed in became %v, %v", a, b)
		}
		seen[e]++
		if e == api.OK {
			isMade(t, a, b, g)
		}
		if fullE == api.OK {
			isMade(t, a, b, full)
		}
	}
	often(t, seen, api.OK, api.ErrRange, api.ErrFull, api.ErrOrder, api.ErrApply)
}

// isMade holds that a datagram may be, and makes b of a, also behind a way by bytes, if they aren't too many.
func isMade(t *testing.T, a, b api.Snap, g api.Gram) {
	t.Helper()
	if s, e := Apply(a, g); !same(s, b) || e != api.OK {
		t.Fatalf("Apply(%v, %v) = %v, %v, want %v", a, g, s, e, b)
	}
	bytes, e := gram.Write(g)
	if e == api.ErrLong {
		return
	}
	read, readE := gram.Read(bytes)
	if s, applyE := Apply(a, read); !same(s, b) || e != api.OK || readE != api.OK || applyE != api.OK {
		t.Fatalf("%v behind bytes makes %v of %v, %v, %v, %v, want %v", g, s, a, e, readE, applyE, b)
	}
}

// someGram is a datagram that mostly may be, and mostly fits on a.
func someGram(chance *rand.Rand, a api.Snap) api.Gram {
	g := api.Gram{Tick: a.Tick + 1, Time: number(chance) >> 2, Base: a.Tick}
	if chance.IntN(6) == 0 {
		g.Base = -1
	}
	all := someIds(chance, 128)
	for _, x := range a.Ents {
		if chance.IntN(3) > 0 {
			all = append(all, x.Id)
		}
	}
	slices.Sort(all)
	for _, id := range slices.Compact(all) {
		r := api.Record{Kind: 1 + chance.IntN(3), Id: id}
		if place(a.Ents, id) < 0 || g.Base == -1 {
			r.Kind = api.Put
		}
		if chance.IntN(200) == 0 {
			r.Kind = chance.IntN(4)
		}
		if r.Kind != api.Remove {
			r.Pos, r.Vel, r.Angle = vector(chance), vector(chance), uint16(chance.UintN(65535))+1
		}
		g.Records = append(g.Records, r)
	}
	return g
}

// spoilGram makes something in a datagram others, so that it mostly doesn't fit.
func spoilGram(chance *rand.Rand, g *api.Gram) {
	switch chance.IntN(4) {
	case 0:
		g.Tick = number(chance)
	case 1:
		g.Base += number(chance)
	case 2:
		g.Time = number(chance)
	case 3:
		g.Records = append(g.Records, api.Record{Kind: int(number(chance)), Id: int(number(chance))})
	}
}

// P10.3: Apply of datagrams that no Diff told is what the model says.
func TestApplyOfAny(t *testing.T) {
	chance := rand.New(rand.NewPCG(10, 2))
	seen := map[api.Errno]int{}
	for range tries {
		a := some(chance, api.MaxTick-1)
		g := someGram(chance, a)
		if chance.IntN(8) == 0 {
			spoilGram(chance, &g)
		}
		if chance.IntN(12) == 0 {
			spoil(chance, &a)
		}
		beforeA, beforeG := slices.Clone(a.Ents), slices.Clone(g.Records)
		want, wantE := modelApply(a, g)
		s, e := Apply(a, g)
		if !same(s, want) || e != wantE {
			t.Fatalf("Apply(%v, %v) = %v, %v, want %v, %v", a, g, s, e, want, wantE)
		}
		if !slices.Equal(a.Ents, beforeA) || !slices.Equal(g.Records, beforeG) {
			t.Fatalf("what was handed in became %v, %v", a, g)
		}
		if e == api.OK && Check(s) != api.OK {
			t.Fatalf("Apply(%v, %v) = %v, which is %v", a, g, s, Check(s))
		}
		seen[e]++
	}
	often(t, seen, api.OK, api.ErrRange, api.ErrOrder, api.ErrLong, api.ErrKind, api.ErrBase, api.ErrApply, api.ErrFull)
}

// Rule 7: what is answered is the same each time, whatever way a map is gone through.
func TestSameEachTime(t *testing.T) {
	a := api.Snap{Tick: 1, Ents: row(64, 0, 1000)}
	b := api.Snap{Tick: 2, Ents: row(64, 500, 1000)}
	want, _ := Diff(a, b)
	for range 200 {
		g, e := Diff(a, b)
		s, applyE := Apply(a, g)
		if !sameGram(g, want) || e != api.OK || !same(s, b) || applyE != api.OK {
			t.Fatalf("Diff = %v, %v, want %v; Apply = %v, %v", g, e, want, s, applyE)
		}
	}
}

// Rule 4: what lies behind a list's length is neither read nor written.
func TestStaysWithin(t *testing.T) {
	ents := []api.Entity{{Id: 2}, {Id: 5}, {Id: -9, Gen: 9}, {Id: -9, Gen: 9}}
	records := []api.Record{{Kind: api.Put, Id: 1}, {Kind: api.Remove, Id: 5}, {Kind: 9, Id: -9}}
	a := api.Snap{Tick: 1, Ents: ents[:2]}
	s, e := Apply(a, api.Gram{Tick: 2, Base: 1, Records: records[:2]})
	if want := (api.Snap{Tick: 2, Ents: ids(1, 2)}); !same(s, want) || e != api.OK {
		t.Errorf("Apply = %v, %v, want %v", s, e, want)
	}
	g, e := Diff(a, s)
	if want := (api.Gram{Tick: 2, Base: 1, Records: records[:2]}); !sameGram(g, want) || e != api.OK {
		t.Errorf("Diff = %v, %v, want %v", g, e, want)
	}
	if _, e := Full(a); e != api.OK || Check(a) != api.OK {
		t.Errorf("Full = %v, Check = %v", e, Check(a))
	}
	if _, ok := Find(a, -9); ok {
		t.Error("Find reads behind the list")
	}
	if ents[2] != (api.Entity{Id: -9, Gen: 9}) || ents[3] != ents[2] || records[2] != (api.Record{Kind: 9, Id: -9}) {
		t.Errorf("behind the lists: %v, %v", ents[2:], records[2])
	}
}

// Rule 4: answers share nothing with one another, nor with what was handed in.
func TestAnswersAreNew(t *testing.T) {
	a := api.Snap{Tick: 1, Ents: row(4, 0, 1)}
	kept := slices.Clone(a.Ents)
	for _, g := range []api.Gram{{Tick: 2, Base: 1}, {Tick: 2, Base: 1, Records: list(api.Put, 3, 7, 1)}} {
		want, _ := modelApply(a, g)
		one, _ := Apply(a, g)
		two, _ := Apply(a, g)
		for i := range one.Ents[:cap(one.Ents)] {
			one.Ents[:cap(one.Ents)][i].Id = 99
		}
		if three, e := Apply(a, g); !same(two, want) || !same(three, want) || e != api.OK || !slices.Equal(a.Ents, kept) {
			t.Errorf("Apply(%v, %v) = %v, then %v, want %v", a, g, two, three, want)
		}
	}
	b := api.Snap{Tick: 2, Ents: row(4, 2, 1)}
	want, _ := modelDiff(a, b)
	one, _ := Diff(a, b)
	two, _ := Diff(a, b)
	for i := range one.Records[:cap(one.Records)] {
		one.Records[:cap(one.Records)][i].Id = 99
	}
	if three, e := Diff(a, b); !sameGram(two, want) || !sameGram(three, want) || e != api.OK {
		t.Errorf("Diff(%v, %v) = %v, then %v, want %v", a, b, two, three, want)
	}
}

// Rule 6: calls may be made by many goroutines at a time.
func TestManyAtATime(t *testing.T) {
	a := api.Snap{Tick: 1, Ents: row(64, 0, 2)}
	var group sync.WaitGroup
	for i := range 64 {
		group.Go(func() {
			b := api.Snap{Tick: 2, Time: int64(i), Ents: row(i, i, 1)}
			g, _ := Diff(a, b)
			full, _ := Full(b)
			s, e := Apply(a, g)
			if two, fullE := Apply(a, full); !same(s, b) || e != api.OK || !same(two, b) || fullE != api.OK {
				t.Errorf("%v was made %v, %v, and %v, %v", b, s, e, two, fullE)
			}
		})
	}
	group.Wait()
}
