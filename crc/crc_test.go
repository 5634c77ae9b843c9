package crc

import (
	"bytes"
	"hash/crc32"
	"math"
	"math/rand/v2"
	"slices"
	"sync"
	"testing"
)

const tries = 20000

// model goes on with a sum by the chapter's words, over numbers that never wrap round.
func model(sum uint32, b []byte) uint32 {
	s := uint64(4294967295) ^ uint64(sum)
	for _, c := range b {
		s ^= uint64(c)
		for range 8 {
			if odd := s % 2; odd == 1 {
				s = s / 2
				s ^= 3988292384
			} else {
				s = s / 2
			}
		}
	}
	return uint32(4294967295 ^ s)
}

// rows are lists of bytes: none, all of one byte, and others of many lengths, the same ones at each run.
func rows() [][]byte {
	r := rand.New(rand.NewPCG(6, 7))
	list := [][]byte{nil, {}, []byte("123456789"), {0, 0, 0}, {0, 0, 0, 0}, {0, 0, 0, 0, 0}, {255, 255, 255, 255}, bytes.Repeat([]byte{0}, 300), bytes.Repeat([]byte{255}, 300)}
	for c := range 256 {
		list = append(list, []byte{byte(c)})
	}
	for range 300 {
		list = append(list, some(r, r.IntN(64)))
	}
	return append(list, some(r, 4092), some(r, 4096), some(r, 10000))
}

// some are n bytes of any kind.
func some(r *rand.Rand, n int) []byte {
	b := make([]byte, n)
	for i := range b {
		b[i] = byte(r.UintN(256))
	}
	return b
}

// P6.1: Sum, by sums that are known.
func TestSum(t *testing.T) {
	for _, c := range []struct {
		text string
		want uint32
	}{
		{"", 0}, {"123456789", 3421780262}, {"a", 0xe8b7be43}, {"abc", 0x352441c2},
		{"\x00", 0xd202ef8d}, {"\xff", 0xff000000}, {"\x00\x00\x00\x00", 0x2144df1c}, {"\xff\xff\xff\xff", 0xffffffff},
		{"The quick brown fox jumps over the lazy dog", 0x414fa339},
	} {
		if got := Sum([]byte(c.text)); got != c.want {
			t.Errorf("Sum(%q) = %d, want %d", c.text, got, c.want)
		}
	}
	if Sum(nil) != 0 {
		t.Errorf("Sum(nil) = %d, want 0", Sum(nil))
	}
}

// P6.1: Sum against the chapter's words, and against the library's sum of that kind.
func TestSumModel(t *testing.T) {
	for _, b := range rows() {
		if got := Sum(b); got != model(0, b) || got != crc32.ChecksumIEEE(b) {
			t.Fatalf("Sum(%v) = %d, want %d, %d", b, got, model(0, b), crc32.ChecksumIEEE(b))
		}
	}
}

// P6.1: Sum of all pairs of bytes.
func TestSumAllPairs(t *testing.T) {
	for i := range 1 << 16 {
		b := []byte{byte(i >> 8), byte(i)}
		if got := Sum(b); got != model(0, b) {
			t.Fatalf("Sum(%v) = %d, want %d", b, got, model(0, b))
		}
	}
}

// P6.1: More, wherever the bytes are parted, in two and in three.
func TestMoreGoesOn(t *testing.T) {
	for _, b := range rows() {
		if len(b) > 100 {
			b = b[:100]
		}
		want := Sum(b)
		if got := More(0, b...); got != want {
			t.Fatalf("More(0, %v) = %d, want %d", b, got, want)
		}
		for k := range len(b) + 1 {
			half := k / 2
			two := More(Sum(b[:k]), b[k:]...)
			three := More(More(More(0, b[:half]...), b[half:k]...), b[k:]...)
			if two != want || three != want {
				t.Fatalf("More of %v, parted at %d, = %d, and at %d too, = %d, want %d", b, k, two, half, three, want)
			}
		}
	}
}

// P6.1: More of no bytes is the sum itself; 0 is the sum of none.
func TestMoreOfNone(t *testing.T) {
	r := rand.New(rand.NewPCG(8, 9))
	sums := []uint32{0, 1, 2, 1 << 31, math.MaxUint32 - 1, math.MaxUint32}
	for range tries {
		sums = append(sums, r.Uint32())
	}
	for _, sum := range sums {
		if More(sum) != sum || More(sum, nil...) != sum || More(sum, []byte{}...) != sum {
			t.Fatalf("More(%d) = %d", sum, More(sum))
		}
	}
}

// P6.1: More of any sum, also of one whose bytes nobody has named.
func TestMoreModel(t *testing.T) {
	r := rand.New(rand.NewPCG(10, 11))
	for i := range tries {
		sum, b := r.Uint32(), some(r, r.IntN(12))
		switch i % 8 {
		case 0:
			sum = 0
		case 1:
			sum = math.MaxUint32
		}
		if got := More(sum, b...); got != model(sum, b) || got != crc32.Update(sum, crc32.IEEETable, b) {
			t.Fatalf("More(%d, %v) = %d, want %d", sum, b, got, model(sum, b))
		}
	}
}

// P6.1: Seal, by bytes worked out by hand: the highest of the sum is first.
func TestSeal(t *testing.T) {
	for _, c := range []struct{ b, want []byte }{
		{nil, []byte{0, 0, 0, 0}}, {[]byte{}, []byte{0, 0, 0, 0}},
		{[]byte{255}, []byte{255, 255, 0, 0, 0}}, {[]byte{0}, []byte{0, 0xd2, 0x02, 0xef, 0x8d}},
		{[]byte("123456789"), []byte("123456789\xcb\xf4\x39\x26")},
	} {
		if got := Seal(c.b); !bytes.Equal(got, c.want) {
			t.Errorf("Seal(%v) = %v, want %v", c.b, got, c.want)
		}
	}
}

// P6.1, P6.2: what is sealed is its bytes, and their sum, and is opened; also what is sealed twice.
func TestSealedIsOpened(t *testing.T) {
	for _, b := range rows() {
		sealed := Seal(b)
		s := model(0, b)
		if want := slices.Concat(b, []byte{byte(s >> 24), byte(s >> 16), byte(s >> 8), byte(s)}); !bytes.Equal(sealed, want) {
			t.Fatalf("Seal(%v) = %v, want %v", b, sealed, want)
		}
		if got, ok := Open(sealed); !ok || !bytes.Equal(got, b) {
			t.Fatalf("Open(%v) = %v, %v, want %v", sealed, got, ok, b)
		}
		if got, ok := Open(Seal(sealed)); !ok || !bytes.Equal(got, sealed) {
			t.Fatalf("Open(%v) = %v, %v, want %v", Seal(sealed), got, ok, sealed)
		}
	}
}

// refused holds that b isn't opened, and that there is nothing beside the false.
func refused(t *testing.T, b []byte) {
	t.Helper()
	if got, ok := Open(b); ok || len(got) != 0 {
		t.Fatalf("Open(%v) = %v, %v, want none, false", b, got, ok)
	}
}

// P6.1: Open of fewer than four bytes, and of four and more that aren't the sum.
func TestOpenRefused(t *testing.T) {
	for _, b := range [][]byte{
		nil, {}, {0}, {0, 0}, {0, 0, 0}, {255, 255, 255},
		{0, 0, 0, 1}, {1, 0, 0, 0}, {255, 255, 255, 255},
		{0, 0x8d, 0xef, 0x02, 0xd2}, {0, 0, 0, 0, 0}, {0xd2, 0x02, 0xef, 0x8d}, {0xd2, 0x02, 0xef, 0x8d, 0},
		[]byte("123456789"), []byte("123456789\x26\x39\xf4\xcb"), []byte("123456789\xcb\xf4\x39"), []byte("123456789\xcb\xf4\x39\x26\x00"),
		[]byte("23456789\xcb\xf4\x39\x26"), []byte("0123456789\xcb\xf4\x39\x26"), []byte("213456789\xcb\xf4\x39\x26"), []byte("\xcb\xf4\x39\x26123456789"),
	} {
		refused(t, b)
	}
}

// P6.1: four zeros are none, and its sum.
func TestOpenOfFour(t *testing.T) {
	if got, ok := Open([]byte{0, 0, 0, 0}); !ok || len(got) != 0 {
		t.Errorf("Open of four zeros = %v, %v, want none, true", got, ok)
	}
}

// P6.1: Open against the model, of bytes of any kind, and of ones of which each last byte is right or not.
func TestOpenModel(t *testing.T) {
	r := rand.New(rand.NewPCG(12, 13))
	opened := 0
	for range tries {
		b := Seal(some(r, r.IntN(6)))
		for i := range size {
			if r.IntN(4) == 0 {
				b[len(b)-1-i] = byte(r.UintN(256))
			}
		}
		ahead, s := b[:len(b)-size], model(0, b[:len(b)-size])
		right := bytes.Equal(b[len(ahead):], []byte{byte(s >> 24), byte(s >> 16), byte(s >> 8), byte(s)})
		if !right {
			refused(t, b)
			continue
		}
		opened++
		if got, ok := Open(b); !ok || !bytes.Equal(got, ahead) {
			t.Fatalf("Open(%v) = %v, %v, want %v, true", b, got, ok, ahead)
		}
	}
	if opened < tries/10 || opened > tries*9/10 {
		t.Errorf("%d of %d were opened", opened, tries)
	}
}

// P6.2: with one bit turned anywhere, what is sealed isn't opened, up to the length of a datagram.
func TestOneBitTurned(t *testing.T) {
	r := rand.New(rand.NewPCG(14, 15))
	list := [][]byte{nil, {0}, {255}, bytes.Repeat([]byte{0}, 40), bytes.Repeat([]byte{255}, 40), some(r, 500)}
	for n := range 40 {
		list = append(list, some(r, n))
	}
	for _, b := range list {
		sealed := Seal(b)
		for i := range 8 * len(sealed) {
			turned(t, sealed, i)
		}
	}
	long := Seal(some(r, 4092))
	for i := 0; i < 8*len(long); i += 61 {
		turned(t, long, i)
	}
}

// turned holds that b isn't opened while its bit i is turned, and is when that is turned back.
func turned(t *testing.T, b []byte, i int) {
	t.Helper()
	b[i/8] ^= 1 << (i % 8)
	refused(t, b)
	b[i/8] ^= 1 << (i % 8)
	if _, ok := Open(b); !ok {
		t.Fatalf("Open(%v) isn't opened", b)
	}
}

// Rule 4: what is handed in isn't changed; what lies behind its length is neither read, nor written, nor handed out.
func TestStaysWithin(t *testing.T) {
	memory := Seal([]byte("123456789ABCDEF"))
	before := slices.Clone(memory)
	for n := range len(memory) {
		b := memory[:n]
		if Sum(b) != model(0, before[:n]) || More(7, b...) != model(7, before[:n]) || !bytes.Equal(Seal(b), Seal(slices.Clip(slices.Clone(b)))) {
			t.Errorf("the first %d bytes are told otherwise where others stand behind them", n)
		}
		refused(t, b)
	}
	got, ok := Open(memory)
	if !ok || !bytes.Equal(got, before[:15]) || bytes.HasPrefix(got[:cap(got)], before) {
		t.Errorf("Open(%v) = %v, %v, with what lies behind it", memory, got[:cap(got)], ok)
	}
	if !bytes.Equal(memory, before) {
		t.Errorf("%v was changed to %v", before, memory)
	}
}

// Rule 4, LANGUAGE 7: answers are new memory, also behind their lengths.
func TestAnswersAreNew(t *testing.T) {
	fill := func(b []byte) {
		for i := range b[:cap(b)] {
			b[:cap(b)][i] = 85
		}
	}
	for _, b := range rows() {
		b = append(make([]byte, 0, len(b)+16), b...)
		whole := slices.Clone(b[:cap(b)])
		fill(Seal(b))
		sealed := Seal(b)
		fill(Seal(b))
		before := slices.Clone(sealed)
		opened, _ := Open(sealed)
		fill(opened)
		if again, ok := Open(sealed); !ok || !bytes.Equal(sealed, before) || !bytes.Equal(again, b) || !bytes.Equal(b[:cap(b)], whole) {
			t.Fatalf("an answer shares memory with %v or with another answer", b)
		}
	}
}

// Rule 6: calls may be made by many goroutines at a time.
func TestManyAtATime(t *testing.T) {
	var group sync.WaitGroup
	for _, b := range rows() {
		group.Go(func() {
			opened, ok := Open(Seal(b))
			if sum := Sum(b); sum != model(0, b) || More(sum, b...) != model(sum, b) || !ok || !bytes.Equal(opened, b) {
				t.Errorf("%v is told otherwise beside others", b)
			}
		})
	}
	group.Wait()
}
