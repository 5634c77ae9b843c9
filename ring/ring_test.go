package ring

import (
	"math"
	"math/rand/v2"
	"runtime"
	"slices"
	"sync"
	"testing"
	"weak"

	"afterimage/api"
)

const tries = 3000

// made is a new ring.
func made[T any](t *testing.T, most int) *Ring[T] {
	t.Helper()
	r, e := New[T](most)
	if r == nil || e != api.OK {
		t.Fatalf("New(%d) = %v, %v", most, r, e)
	}
	return r
}

// lay holds what Lay answers.
func lay[T any](t *testing.T, r *Ring[T], key int64, x T, gone int64, went bool, want api.Errno) {
	t.Helper()
	if k, ok, e := r.Lay(key, x); k != gone || ok != went || e != want {
		t.Errorf("Lay(%d, %v) = %d, %v, %v, want %d, %v, %v", key, x, k, ok, e, gone, went, want)
	}
}

// pair is a number, and the thing at it.
type pair[T any] struct {
	key   int64
	thing T
}

// stands holds how a ring stands, by all that may be asked: its numbers in order with their things, and its floor. Twice, as asking changes nothing.
func stands[T comparable](t *testing.T, r *Ring[T], floor int64, hasGone bool, all ...pair[T]) {
	t.Helper()
	for range 2 {
		if n := r.Len(); n != len(all) {
			t.Fatalf("Len = %d, want %d", n, len(all))
		}
		if k, ok := r.Floor(); k != floor || ok != hasGone {
			t.Fatalf("Floor = %d, %v, want %d, %v", k, ok, floor, hasGone)
		}
		for i, p := range all {
			if k, x, e := r.At(i); k != p.key || x != p.thing || e != api.OK {
				t.Fatalf("At(%d) = %d, %v, %v, want %v", i, k, x, e, p)
			}
			if x, ok := r.Get(p.key); x != p.thing || !ok {
				t.Fatalf("Get(%d) = %v, %v, want %v", p.key, x, ok, p.thing)
			}
			if n := r.Until(p.key); n != i+1 {
				t.Fatalf("Until(%d) = %d, want %d", p.key, n, i+1)
			}
		}
		for _, i := range []int{-1, len(all), len(all) + 1, api.MaxRing, math.MinInt, math.MaxInt} {
			isNoPlace(t, r, i)
		}
	}
}

// isNoPlace holds that a ring has nothing at a place.
func isNoPlace[T comparable](t *testing.T, r *Ring[T], i int) {
	t.Helper()
	var none T
	if k, x, e := r.At(i); k != 0 || x != none || e != api.ErrRange {
		t.Fatalf("At(%d) = %d, %v, %v, want 0, the zero thing, %v", i, k, x, e, api.ErrRange)
	}
}

// lacks holds that numbers aren't there.
func lacks[T comparable](t *testing.T, r *Ring[T], keys ...int64) {
	t.Helper()
	var none T
	for _, key := range keys {
		if x, ok := r.Get(key); x != none || ok {
			t.Errorf("Get(%d) = %v, %v, want none", key, x, ok)
		}
	}
}

// P11.1: New, at its edges.
func TestNew(t *testing.T) {
	for _, most := range []int{0, -1, api.MaxRing + 1, 1 << 32, 1<<32 + 1, math.MinInt, math.MaxInt} {
		if r, e := New[int](most); r != nil || e != api.ErrRange {
			t.Errorf("New(%d) = %v, %v, want nil, %v", most, r, e, api.ErrRange)
		}
	}
	for most := 1; most <= api.MaxRing; most++ {
		r := made[string](t, most)
		stands(t, r, 0, false)
		lacks(t, r, 0, 1, -1, math.MinInt64, math.MaxInt64)
	}
}

// The chapter's example.
func TestExample(t *testing.T) {
	r := made[string](t, 2)
	lay(t, r, 5, "five", 0, false, api.OK)
	lay(t, r, 3, "three", 0, false, api.OK)
	lay(t, r, 4, "four", 3, true, api.OK)
	lay(t, r, 3, "else", 0, false, api.ErrStale)
	lay(t, r, 5, "else", 0, false, api.ErrDup)
	stands(t, r, 3, true, pair[string]{4, "four"}, pair[string]{5, "five"})
	lacks(t, r, 3)
}

// P11.1: numbers laid in any order stand in order, each with its own thing.
func TestInOrder(t *testing.T) {
	want := []pair[int]{{math.MinInt64, 0}, {-7, 1}, {0, 2}, {7, 3}, {math.MaxInt64, 4}}
	chance := rand.New(rand.NewPCG(11, 1))
	for range 500 {
		r := made[int](t, 5)
		for _, i := range chance.Perm(5) {
			lay(t, r, want[i].key, want[i].thing, 0, false, api.OK)
		}
		stands(t, r, 0, false, want...)
		lacks(t, r, math.MinInt64+1, -8, -6, -1, 1, 6, 8, math.MaxInt64-1)
	}
}

// P11.1: as many as there may be, of each most; one more and the least goes, one by one.
func TestMost(t *testing.T) {
	for most := 1; most <= api.MaxRing; most++ {
		r := made[int](t, most)
		var all []pair[int]
		for i := range most {
			lay(t, r, int64(i*10), i, 0, false, api.OK)
			all = append(all, pair[int]{int64(i * 10), i})
		}
		stands(t, r, 0, false, all...)
		for i := range 3 * most {
			key := int64((most + i) * 10)
			lay(t, r, key, most+i, all[0].key, true, api.OK)
			all = append(all[1:], pair[int]{key, most + i})
			stands(t, r, int64(i*10), true, all...)
		}
	}
}

// P11.1: a number that is there is refused, in a ring with room and in a full one, be it the least, the greatest or between; its thing stays.
func TestDup(t *testing.T) {
	for _, most := range []int{3, 4} {
		r := made[string](t, most)
		for _, key := range []int64{math.MinInt64, 0, math.MaxInt64} {
			lay(t, r, key, "first", 0, false, api.OK)
		}
		for _, key := range []int64{math.MinInt64, 0, math.MaxInt64} {
			lay(t, r, key, "second", 0, false, api.ErrDup)
		}
		stands(t, r, 0, false, pair[string]{math.MinInt64, "first"}, pair[string]{0, "first"}, pair[string]{math.MaxInt64, "first"})
	}
}

// P11.1: a full ring refuses what is less than all of its numbers. That has not gone: it doesn't make a floor.
func TestStaleOfFull(t *testing.T) {
	r := made[string](t, 2)
	lay(t, r, 10, "a", 0, false, api.OK)
	lay(t, r, 20, "b", 0, false, api.OK)
	for _, key := range []int64{9, 0, -1, math.MinInt64} {
		lay(t, r, key, "c", 0, false, api.ErrStale)
		stands(t, r, 0, false, pair[string]{10, "a"}, pair[string]{20, "b"})
	}
	lay(t, r, 11, "d", 10, true, api.OK)
	for _, key := range []int64{10, 9, 0, math.MinInt64} {
		lay(t, r, key, "e", 0, false, api.ErrStale)
		stands(t, r, 10, true, pair[string]{11, "d"}, pair[string]{20, "b"})
	}
}

// P11.1: a number that is less than all that are there is laid while there is room, and refused from then on.
func TestRoomBelow(t *testing.T) {
	r := made[int](t, 3)
	for i, key := range []int64{30, 20, 10, 0, -5} {
		want := api.OK
		if i > 2 {
			want = api.ErrStale
		}
		lay(t, r, key, i, 0, false, want)
	}
	stands(t, r, 0, false, pair[int]{10, 2}, pair[int]{20, 1}, pair[int]{30, 0})
}

// P11.1, P11.2: the floor at the ends of int64: where none has gone, and where 0 or the least number has.
func TestFloorAtEnds(t *testing.T) {
	r := made[int](t, 1)
	lay(t, r, math.MinInt64, 1, 0, false, api.OK)
	stands(t, r, 0, false, pair[int]{math.MinInt64, 1})
	lay(t, r, math.MinInt64+1, 2, math.MinInt64, true, api.OK)
	lay(t, r, math.MinInt64, 3, 0, false, api.ErrStale)
	stands(t, r, math.MinInt64, true, pair[int]{math.MinInt64 + 1, 2})
	lay(t, r, 0, 4, math.MinInt64+1, true, api.OK)
	lay(t, r, 1, 5, 0, true, api.OK)
	lay(t, r, 0, 6, 0, false, api.ErrStale)
	stands(t, r, 0, true, pair[int]{1, 5})
	lay(t, r, math.MaxInt64-1, 7, 1, true, api.OK)
	lay(t, r, math.MaxInt64, 8, math.MaxInt64-1, true, api.OK)
	lay(t, r, math.MaxInt64, 9, 0, false, api.ErrDup)
	lay(t, r, math.MaxInt64-1, 9, 0, false, api.ErrStale)
	stands(t, r, math.MaxInt64-1, true, pair[int]{math.MaxInt64, 8})
}

// P11.1: below 0, where no number has gone, none is stale: a floor of 0 is none.
func TestNoFloor(t *testing.T) {
	r := made[int](t, 2)
	lay(t, r, -5, 1, 0, false, api.OK)
	lay(t, r, 0, 2, 0, false, api.OK)
	stands(t, r, 0, false, pair[int]{-5, 1}, pair[int]{0, 2})
	lay(t, r, -3, 3, -5, true, api.OK)
	lay(t, r, -1, 4, -3, true, api.OK)
	stands(t, r, -3, true, pair[int]{-1, 4}, pair[int]{0, 2})
}

// P11.2: Until, below, at, between and above the numbers.
func TestUntil(t *testing.T) {
	r := made[bool](t, 4)
	for _, key := range []int64{math.MinInt64, math.MaxInt64, math.MaxInt64 - 1} {
		if n := r.Until(key); n != 0 {
			t.Errorf("Until(%d) of none = %d", key, n)
		}
	}
	for _, key := range []int64{20, -10, 10, 11} {
		lay(t, r, key, true, 0, false, api.OK)
	}
	for _, c := range []struct {
		key  int64
		want int
	}{{math.MinInt64, 0}, {-11, 0}, {-10, 1}, {-9, 1}, {0, 1}, {9, 1}, {10, 2}, {11, 3}, {12, 3}, {19, 3}, {20, 4}, {21, 4}, {math.MaxInt64, 4}} {
		if n := r.Until(c.key); n != c.want {
			t.Errorf("Until(%d) = %d, want %d", c.key, n, c.want)
		}
	}
	r = made[bool](t, 2)
	lay(t, r, math.MinInt64, true, 0, false, api.OK)
	lay(t, r, math.MaxInt64, true, 0, false, api.OK)
	if a, b, c := r.Until(math.MinInt64), r.Until(math.MaxInt64-1), r.Until(math.MaxInt64); a != 1 || b != 1 || c != 2 {
		t.Errorf("Until at both ends: %d, %d, %d", a, b, c)
	}
}

// The bracket below the functions: a nil ring.
func TestNil(t *testing.T) {
	var r *Ring[string]
	for _, key := range []int64{0, 5, math.MinInt64, math.MaxInt64} {
		lay(t, r, key, "x", 0, false, api.ErrNil)
		lacks(t, r, key)
		if n := r.Until(key); n != 0 {
			t.Errorf("Until(%d) of nil = %d", key, n)
		}
	}
	for _, i := range []int{0, 1, -1, math.MinInt, math.MaxInt} {
		if k, x, e := r.At(i); k != 0 || x != "" || e != api.ErrNil {
			t.Errorf("At(%d) of nil = %d, %q, %v", i, k, x, e)
		}
	}
	if k, ok := r.Floor(); k != 0 || ok || r.Len() != 0 {
		t.Errorf("of nil: Floor %d, %v, Len %d", k, ok, r.Len())
	}
}

// Things of any type, also those that can't be held against each other.
func TestAnyType(t *testing.T) {
	funcs := made[func() int](t, 1)
	if _, _, e := funcs.Lay(1, func() int { return 7 }); e != api.OK {
		t.Errorf("Lay of a function: %v", e)
	}
	if f, ok := funcs.Get(1); !ok || f() != 7 {
		t.Error("the function isn't there")
	}
	if f, ok := funcs.Get(2); ok || f != nil {
		t.Error("a function is at 2")
	}
	if _, f, e := funcs.At(1); f != nil || e != api.ErrRange {
		t.Errorf("At(1): %v", e)
	}
	lists := made[[]int](t, 2)
	for i, list := range [][]int{nil, {1, 2}} {
		if _, _, e := lists.Lay(int64(i), list); e != api.OK {
			t.Errorf("Lay of a list: %v", e)
		}
		if k, x, e := lists.At(i); k != int64(i) || !slices.Equal(x, list) || e != api.OK {
			t.Errorf("At(%d) = %d, %v, %v", i, k, x, e)
		}
	}
	mixed := made[any](t, 2)
	lay(t, mixed, 1, "text", 0, false, api.OK)
	lay(t, mixed, 2, nil, 0, false, api.OK)
	lay(t, mixed, 3, 4.5, 1, true, api.OK)
	if x, ok := mixed.Get(2); x != nil || !ok {
		t.Errorf("Get(2) = %v, %v", x, ok)
	}
	snaps := made[api.Snap](t, 1)
	if _, _, e := snaps.Lay(9, api.Snap{Tick: 9, Ents: []api.Entity{{Id: 3}}}); e != api.OK {
		t.Errorf("Lay of a snapshot: %v", e)
	}
	if s, ok := snaps.Get(9); s.Tick != 9 || len(s.Ents) != 1 || !ok {
		t.Errorf("Get(9) = %v, %v", s, ok)
	}
	if s, ok := snaps.Get(8); s.Tick != 0 || s.Ents != nil || ok {
		t.Errorf("Get(8) = %v, %v", s, ok)
	}
}

// model is a ring by the chapter's words: all numbers that were ever laid and not refused, with their things, and which of them have gone.
type model struct {
	most int
	laid map[int64]int
	gone []int64
}

// here are the numbers that haven't gone, in order.
func (m *model) here() []int64 {
	var keys []int64
	for key := range m.laid {
		if !slices.Contains(m.gone, key) {
			keys = append(keys, key)
		}
	}
	slices.Sort(keys)
	return keys
}

func (m *model) lay(key int64, x int) (int64, bool, api.Errno) {
	here := m.here()
	if slices.Contains(here, key) {
		return 0, false, api.ErrDup
	}
	for _, k := range m.gone {
		if k >= key {
			return 0, false, api.ErrStale
		}
	}
	if len(here) == m.most && slices.Min(here) > key {
		return 0, false, api.ErrStale
	}
	m.laid[key] = x
	here = m.here()
	if len(here) <= m.most {
		return 0, false, api.OK
	}
	m.gone = append(m.gone, here[0])
	return here[0], true, api.OK
}

// greatest are the greatest numbers of all that were ever laid and not refused, in order.
func (m *model) greatest() []int64 {
	var keys []int64
	for key := range m.laid {
		keys = append(keys, key)
	}
	slices.Sort(keys)
	return keys[max(0, len(keys)-m.most):]
}

// number is one of many sizes, that mostly rises with the step, so that there are numbers of each kind: new, twice the same, and too late.
func number(chance *rand.Rand, step int) int64 {
	switch chance.IntN(12) {
	case 0:
		return int64(chance.Uint64()) >> chance.IntN(64)
	case 1:
		return math.MinInt64 + int64(chance.IntN(3))
	default:
		return int64(step*2) + int64(chance.IntN(40)) - 30
	}
}

// P11.1, P11.2, P11.3: rings in which numbers of any kind are laid, against the model.
func TestModel(t *testing.T) {
	chance := rand.New(rand.NewPCG(11, 2))
	seen := map[api.Errno]int{}
	went := 0
	for range tries {
		most := 1 + chance.IntN(8)
		r, m := made[int](t, most), &model{most: most, laid: map[int64]int{}}
		for step := range chance.IntN(40) {
			key := number(chance, step)
			wantK, wantOk, wantE := m.lay(key, step)
			k, ok, e := r.Lay(key, step)
			if k != wantK || ok != wantOk || e != wantE {
				t.Fatalf("most %d, step %d: Lay(%d) = %d, %v, %v, want %d, %v, %v", most, step, key, k, ok, e, wantK, wantOk, wantE)
			}
			isModel(t, chance, r, m)
			seen[e]++
			if ok {
				went++
			}
		}
	}
	for _, e := range []api.Errno{api.OK, api.ErrDup, api.ErrStale} {
		if seen[e] < 1000 {
			t.Errorf("%v came %d times only", e, seen[e])
		}
	}
	if went < 1000 {
		t.Errorf("%d went only", went)
	}
}

// isModel holds that a ring answers as its model does.
func isModel(t *testing.T, chance *rand.Rand, r *Ring[int], m *model) {
	t.Helper()
	here := m.here()
	if !slices.Equal(here, m.greatest()) {
		t.Fatalf("the model has %v, the greatest are %v", here, m.greatest())
	}
	var all []pair[int]
	for _, key := range here {
		all = append(all, pair[int]{key, m.laid[key]})
	}
	floor := int64(0)
	if len(m.gone) > 0 {
		floor = slices.Max(m.gone)
		lacks(t, r, m.gone...)
		if len(here) > 0 && here[0] <= floor {
			t.Fatalf("%d is there, %d has gone", here[0], floor)
		}
	}
	stands(t, r, floor, len(m.gone) > 0, all...)
	for range 4 {
		key := number(chance, chance.IntN(40))
		until := 0
		for _, k := range here {
			if k <= key {
				until++
			}
		}
		if n := r.Until(key); n != until {
			t.Fatalf("Until(%d) = %d of %v", key, n, here)
		}
		if x, ok := r.Get(key); ok != slices.Contains(here, key) || ok && x != m.laid[key] || !ok && x != 0 {
			t.Fatalf("Get(%d) = %d, %v of %v", key, x, ok, here)
		}
	}
}

// LANGUAGE.md, 8: a thing that has gone, or was refused, isn't kept; one that is there is.
func TestGoneIsNotKept(t *testing.T) {
	for _, most := range []int{1, 2, 5, api.MaxRing} {
		r := made[*[100]int](t, most)
		watch := func(key int64, want api.Errno) weak.Pointer[[100]int] {
			x := new([100]int)
			if _, _, e := r.Lay(key, x); e != want {
				t.Fatalf("most %d: Lay(%d): %v, want %v", most, key, e, want)
			}
			return weak.Make(x)
		}
		var all []weak.Pointer[[100]int]
		for key := range 3 * most {
			all = append(all, watch(int64(key), api.OK))
		}
		dup, stale := watch(int64(2*most), api.ErrDup), watch(0, api.ErrStale)
		runtime.GC()
		for key, x := range all {
			if there := key >= 2*most; there != (x.Value() != nil) {
				t.Errorf("most %d: the thing at %d is kept: %v, want %v", most, key, !there, there)
			}
		}
		if dup.Value() != nil || stale.Value() != nil {
			t.Errorf("most %d: a thing that was refused is kept", most)
		}
		runtime.KeepAlive(r)
	}
}

// P2: two rings have nothing to do with one another.
func TestApart(t *testing.T) {
	one, two := made[int](t, 2), made[int](t, 2)
	for key := range int64(4) {
		lay(t, one, key, 1, max(0, key-2), key > 1, api.OK)
	}
	stands(t, two, 0, false)
	lay(t, two, 0, 2, 0, false, api.OK)
	lay(t, two, 3, 2, 0, false, api.OK)
	stands(t, one, 1, true, pair[int]{2, 1}, pair[int]{3, 1})
	stands(t, two, 0, false, pair[int]{0, 2}, pair[int]{3, 2})
}

// Rule 6: rings, each used by one goroutine, may be made and used by many at a time.
func TestManyAtATime(t *testing.T) {
	var group sync.WaitGroup
	for i := range 64 {
		group.Go(func() {
			r, e := New[int](i + 1)
			if e != api.OK {
				t.Errorf("New(%d): %v", i+1, e)
				return
			}
			for key := range int64(200) {
				r.Lay(key, i)
			}
			if k, x, e := r.At(i); k != 199 || x != i || e != api.OK || r.Len() != i+1 {
				t.Errorf("At(%d) = %d, %d, %v of %d", i, k, x, e, r.Len())
			}
		})
	}
	group.Wait()
}
