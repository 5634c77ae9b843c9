package window

import (
	"cmp"
	"math"
	"math/rand/v2"
	"runtime"
	"slices"
	"strings"
	"sync"
	"testing"
	"unsafe"
	"weak"

	"afterimage/api"
)

const tries = 2000

// made is a new window.
func made[T cmp.Ordered](t *testing.T, most int) *Window[T] {
	t.Helper()
	w, e := New[T](most)
	if w == nil || e != api.OK {
		t.Fatalf("New(%d) = %v, %v", most, w, e)
	}
	return w
}

// add holds that samples are added.
func add[T cmp.Ordered](t *testing.T, w *Window[T], samples ...T) {
	t.Helper()
	for _, x := range samples {
		if e := w.Add(x); e != api.OK {
			t.Fatalf("Add(%v) = %v", x, e)
		}
	}
}

// looks holds what a window looks at, by all that may be asked. Twice, as asking changes nothing.
func looks[T cmp.Ordered](t *testing.T, w *Window[T], least, greatest T, last ...T) {
	t.Helper()
	for range 2 {
		if x, ok := w.Least(); x != least || !ok {
			t.Fatalf("Least of %v = %v, %v, want %v", last, x, ok, least)
		}
		if x, ok := w.Greatest(); x != greatest || !ok {
			t.Fatalf("Greatest of %v = %v, %v, want %v", last, x, ok, greatest)
		}
		if n := w.Len(); n != len(last) {
			t.Fatalf("Len = %d, want %d", n, len(last))
		}
		if all := w.Last(); !slices.Equal(all, last) {
			t.Fatalf("Last = %v, want %v", all, last)
		}
	}
}

// isEmpty holds that a window looks at no samples.
func isEmpty[T cmp.Ordered](t *testing.T, w *Window[T]) {
	t.Helper()
	var none T
	if x, ok := w.Least(); x != none || ok {
		t.Errorf("Least of none = %v, %v", x, ok)
	}
	if x, ok := w.Greatest(); x != none || ok {
		t.Errorf("Greatest of none = %v, %v", x, ok)
	}
	if n, all := w.Len(), w.Last(); n != 0 || len(all) != 0 {
		t.Errorf("none: Len %d, Last %v", n, all)
	}
}

// P13.1: New, at its edges.
func TestNew(t *testing.T) {
	for _, most := range []int{0, -1, api.MaxWindow + 1, 1 << 32, 1<<32 + 1, math.MinInt, math.MaxInt} {
		if w, e := New[int](most); w != nil || e != api.ErrRange {
			t.Errorf("New(%d) = %v, %v, want nil, %v", most, w, e, api.ErrRange)
		}
		if w, e := New[string](most); w != nil || e != api.ErrRange {
			t.Errorf("New(%d) of texts = %v, %v, want nil, %v", most, w, e, api.ErrRange)
		}
	}
	for most := 1; most <= api.MaxWindow; most++ {
		isEmpty(t, made[int64](t, most))
		isEmpty(t, made[float64](t, most))
		isEmpty(t, made[string](t, most))
	}
}

// The chapter's example.
func TestExample(t *testing.T) {
	w := made[int](t, 2)
	add(t, w, 5, 3, 4)
	looks(t, w, 3, 4, 3, 4)
	add(t, w, 9)
	looks(t, w, 4, 9, 4, 9)
}

// P13.1, P13.2: fewer samples than there may be are all looked at; one more than that, and the oldest falls out. For each most.
func TestMost(t *testing.T) {
	for most := 1; most <= api.MaxWindow; most++ {
		rising, falling := made[int](t, most), made[int](t, most)
		var up, down []int
		for i := range 3 * most {
			add(t, rising, i)
			add(t, falling, -i)
			up, down = append(up, i), append(down, -i)
			first := max(0, i+1-most)
			looks(t, rising, first, i, up[first:]...)
			looks(t, falling, -i, -first, down[first:]...)
		}
	}
}

// P13.2: samples that are the same are looked at one by one: one of them falls out, and the other stays the least, or the greatest.
func TestSame(t *testing.T) {
	w := made[int](t, 3)
	add(t, w, 7, 7)
	looks(t, w, 7, 7, 7, 7)
	add(t, w, 7)
	looks(t, w, 7, 7, 7, 7, 7)
	add(t, w, 8)
	looks(t, w, 7, 8, 7, 7, 8)
	add(t, w, 8)
	looks(t, w, 7, 8, 7, 8, 8)
	add(t, w, 8)
	looks(t, w, 8, 8, 8, 8, 8)

	w = made[int](t, 4)
	add(t, w, 1, 1, 9, 9)
	looks(t, w, 1, 9, 1, 1, 9, 9)
	add(t, w, 5)
	looks(t, w, 1, 9, 1, 9, 9, 5)
	add(t, w, 5)
	looks(t, w, 5, 9, 9, 9, 5, 5)
	add(t, w, 5)
	looks(t, w, 5, 9, 9, 5, 5, 5)
	add(t, w, 5)
	looks(t, w, 5, 5, 5, 5, 5, 5)
}

// P13.2: of one sample it is all.
func TestOne(t *testing.T) {
	w := made[int64](t, 1)
	for _, x := range []int64{0, math.MinInt64, math.MaxInt64, math.MaxInt64, -1, 1, 0} {
		add(t, w, x)
		looks(t, w, x, x, x)
	}
}

// P13.2: the least and the greatest sample, wherever they stand.
func TestAnyOrder(t *testing.T) {
	chance := rand.New(rand.NewPCG(13, 1))
	samples := []int64{math.MinInt64, -2, -1, 0, 1, math.MaxInt64}
	for range 2000 {
		chance.Shuffle(len(samples), func(i, j int) { samples[i], samples[j] = samples[j], samples[i] })
		w := made[int64](t, len(samples))
		add(t, w, 5, math.MaxInt64, math.MinInt64)
		add(t, w, samples...)
		looks(t, w, math.MinInt64, math.MaxInt64, samples...)
	}
}

// wide is a type of the test's own.
type wide uint64

// P13.1, P13.2: samples of any type that is ordered, at its ends.
func TestAnyType(t *testing.T) {
	words := made[string](t, 3)
	add(t, words, "b", "", "ba")
	looks(t, words, "", "ba", "b", "", "ba")
	add(t, words, "a\x00", "\xff")
	looks(t, words, "a\x00", "\xff", "ba", "a\x00", "\xff")

	floats := made[float64](t, 3)
	add(t, floats, math.SmallestNonzeroFloat64, 0, math.Inf(1))
	looks(t, floats, 0, math.Inf(1), math.SmallestNonzeroFloat64, 0, math.Inf(1))
	add(t, floats, math.Inf(-1), -math.MaxFloat64, -0.5)
	looks(t, floats, math.Inf(-1), -0.5, math.Inf(-1), -math.MaxFloat64, -0.5)

	wides := made[wide](t, 2)
	add(t, wides, 1<<63, math.MaxUint64)
	looks(t, wides, 1<<63, math.MaxUint64, 1<<63, math.MaxUint64)
	add(t, wides, 1)
	looks(t, wides, 1, math.MaxUint64, math.MaxUint64, 1)

	bytes := made[byte](t, 2)
	add(t, bytes, 127, 128)
	looks(t, bytes, 127, 128, 127, 128)
	small := made[int8](t, 2)
	add(t, small, 127, -128)
	looks(t, small, -128, 127, 127, -128)
}

// P1: a float that is no number stops nothing, and is forgotten when it has fallen out.
func TestNoNumber(t *testing.T) {
	w := made[float64](t, 3)
	for _, samples := range [][]float64{{math.NaN()}, {1, math.NaN()}, {math.NaN(), math.NaN(), math.NaN()}} {
		add(t, w, samples...)
		w.Least()
		w.Greatest()
		if n := len(w.Last()); n != w.Len() {
			t.Errorf("Last has %d, Len is %d", n, w.Len())
		}
	}
	add(t, w, 2, 1, 3)
	looks(t, w, 1, 3, 2, 1, 3)
}

// The bracket below the functions: a nil window.
func TestNil(t *testing.T) {
	var numbers *Window[int]
	for _, x := range []int{0, 5, math.MinInt, math.MaxInt} {
		if e := numbers.Add(x); e != api.ErrNil {
			t.Errorf("Add(%d) of nil = %v, want %v", x, e, api.ErrNil)
		}
		isEmpty(t, numbers)
	}
	var words *Window[string]
	if e := words.Add("a"); e != api.ErrNil {
		t.Errorf("Add of nil = %v, want %v", e, api.ErrNil)
	}
	isEmpty(t, words)
}

// Rule 4: what Last answers may be changed, and grown: neither the window nor another answer is others then. Nor is an answer by what is added later.
func TestLastIsOwn(t *testing.T) {
	w := made[int](t, 4)
	for step := range 12 {
		add(t, w, step)
		before := w.Last()
		want := slices.Clone(before)
		spoilt := w.Last()
		for i := range spoilt {
			spoilt[i] = -1
		}
		_ = append(spoilt[:cap(spoilt)], -2)
		clear(spoilt[:cap(spoilt)])
		looks(t, w, want[0], step, want...)
		add(t, w, step)
		if !slices.Equal(before, want) {
			t.Fatalf("an answer became %v, it was %v", before, want)
		}
	}
}

// model is a window by the chapter's words: all samples that were ever added.
type model struct {
	most int
	all  []int64
}

// last are those that are looked at.
func (m *model) last() []int64 {
	return m.all[max(0, len(m.all)-m.most):]
}

// sample is one of many sizes; often one that was there lately, or near to it.
func sample(chance *rand.Rand, m *model) int64 {
	switch last := m.last(); {
	case len(last) > 0 && chance.IntN(4) == 0:
		return last[chance.IntN(len(last))]
	case len(last) > 0 && chance.IntN(4) == 0:
		return last[len(last)-1] + int64(chance.IntN(3)) - 1
	case chance.IntN(8) == 0:
		return int64(chance.Uint64()) >> chance.IntN(64)
	}
	return int64(chance.IntN(20)) - 10
}

// P13.1, P13.2, P13.3: windows of samples of any kind against the model: the least rises only when one falls out.
func TestModel(t *testing.T) {
	chance := rand.New(rand.NewPCG(13, 2))
	rose := 0
	for range tries {
		m := &model{most: 1 + chance.IntN(api.MaxWindow)}
		if chance.IntN(2) == 0 {
			m.most = 1 + chance.IntN(5)
		}
		w := made[int64](t, m.most)
		isEmpty(t, w)
		for range chance.IntN(4 * m.most) {
			was, had := w.Least()
			full := w.Len() == m.most
			x := sample(chance, m)
			add(t, w, x)
			m.all = append(m.all, x)
			looks(t, w, slices.Min(m.last()), slices.Max(m.last()), m.last()...)
			if now, _ := w.Least(); had && now > was {
				rose++
				if !full {
					t.Fatalf("the least rose from %d to %d, and none fell out", was, now)
				}
			}
		}
	}
	if rose < 1000 {
		t.Errorf("the least rose %d times only", rose)
	}
}

// LANGUAGE.md, 8: a sample that fell out isn't kept; one that is looked at is.
func TestFallenIsNotKept(t *testing.T) {
	for _, most := range []int{1, 2, 5, api.MaxWindow} {
		w := made[string](t, most)
		var all []weak.Pointer[byte]
		for i := range 3 * most {
			text := strings.Repeat(string(rune('a'+i%7)), 500)
			add(t, w, text)
			all = append(all, weak.Make(unsafe.StringData(text)))
		}
		runtime.GC()
		for i, x := range all {
			if there := i >= 2*most; there != (x.Value() != nil) {
				t.Errorf("most %d: the sample %d is kept: %v, want %v", most, i, !there, there)
			}
		}
		runtime.KeepAlive(w)
	}
}

// P2: two windows have nothing to do with one another.
func TestApart(t *testing.T) {
	one, two := made[int](t, 2), made[int](t, 2)
	add(t, one, 1, 2, 3)
	isEmpty(t, two)
	add(t, two, 9)
	looks(t, one, 2, 3, 2, 3)
	looks(t, two, 9, 9, 9)
}

// Rule 6: windows, each used by one goroutine, may be made and used by many at a time.
func TestManyAtATime(t *testing.T) {
	var group sync.WaitGroup
	for i := range api.MaxWindow {
		group.Go(func() {
			w, e := New[int](i + 1)
			if e != api.OK {
				t.Errorf("New(%d): %v", i+1, e)
				return
			}
			for x := range 500 {
				w.Add(x)
			}
			least, _ := w.Least()
			greatest, _ := w.Greatest()
			if least != 499-i || greatest != 499 || w.Len() != i+1 || len(w.Last()) != i+1 {
				t.Errorf("of %d: %d, %d, %d, %v", i+1, least, greatest, w.Len(), w.Last())
			}
		})
	}
	group.Wait()
}
