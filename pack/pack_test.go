package pack

import (
	"bytes"
	"hash/crc32"
	"math"
	"math/rand"
	"slices"
	"testing"

	"foundling/api"
)

const sample = 0x8877665544332211

// roomy: a list with spare room, which is filled with fill.
func roomy[T any](fill T, list ...T) []T {
	out := append([]T{}, list...)
	for range 20 {
		out = append(out, fill)
	}
	return out[:len(list)]
}

// P2.1

func TestPut(t *testing.T) {
	for _, c := range []struct {
		b    []byte
		x    uint64
		n    int
		want string
	}{
		{nil, 258, 2, "\x02\x01"}, {[]byte{9}, 258, 2, "\x09\x02\x01"}, {nil, 258, 1, "\x02"}, {nil, 258, 0, ""}, {[]byte{9, 8}, 258, 0, "\x09\x08"},
		{nil, sample, 7, "\x11\x22\x33\x44\x55\x66\x77"}, {nil, sample, 8, "\x11\x22\x33\x44\x55\x66\x77\x88"}, {nil, sample, 9, "\x11\x22\x33\x44\x55\x66\x77\x88"}, {nil, sample, math.MaxInt, "\x11\x22\x33\x44\x55\x66\x77\x88"},
		{[]byte{9}, sample, -1, "\x09"}, {[]byte{9}, sample, math.MinInt, "\x09"}, {nil, 1, 8, "\x01\x00\x00\x00\x00\x00\x00\x00"}, {nil, math.MaxUint64, 3, "\xff\xff\xff"},
	} {
		if got := Put(c.b, c.x, c.n); string(got) != c.want {
			t.Errorf("P2.1: Put(%x, %x, %d) = %x", c.b, c.x, c.n, got)
		}
	}
}

func TestGet(t *testing.T) {
	b := []byte{0x11, 0x22, 0x33, 0x44, 0x55, 0x66, 0x77, 0x88, 0x99}
	for n, want := range map[int]uint64{math.MinInt: 0, -1: 0, 0: 0, 1: 0x11, 2: 0x2211, 7: 0x77665544332211, 8: sample, 9: sample, math.MaxInt: sample} {
		if x, e := Get(b, n); x != want || e != api.OK {
			t.Errorf("P2.1: Get(.., %d) = %x, %d", n, x, e)
		}
	}
	for n := -1; n <= 10; n++ {
		for size := range 9 {
			want := api.OK
			if size < min(n, 8) {
				want = api.ErrEnd
			}
			if x, e := Get(b[:size], n); e != want || e != api.OK && x != 0 {
				t.Errorf("P2.1: Get(%d bytes, %d) = %x, %d", size, n, x, e)
			}
		}
	}
	if x, e := Get(nil, 0); x != 0 || e != api.OK {
		t.Errorf("P2.1: Get(nil, 0) = %x, %d", x, e)
	}
	if x, e := Get(nil, 1); x != 0 || e != api.ErrEnd {
		t.Errorf("P2.1: Get(nil, 1) = %x, %d", x, e)
	}
}

func TestPutGet(t *testing.T) {
	for _, x := range []uint64{0, 1, 255, 256, sample, 1 << 63, math.MaxUint64} {
		for n := range 9 {
			want := x
			if n < 8 {
				want &= 1<<(8*n) - 1
			}
			if got, e := Get(Put(nil, x, n), n); got != want || e != api.OK {
				t.Errorf("P2.1: Get(Put(%x, %d)) = %x, %d", x, n, got, e)
			}
		}
	}
}

func TestWords(t *testing.T) {
	if b := Words(); len(b) != 0 {
		t.Errorf("P2.1: Words() = %x", b)
	}
	if b := Words(sample, 1); string(b) != "\x11\x22\x33\x44\x55\x66\x77\x88\x01\x00\x00\x00\x00\x00\x00\x00" {
		t.Errorf("P2.1: Words = %x", b)
	}
	for _, list := range [][]uint64{nil, {0}, {math.MaxUint64}, {5, 1 << 63}, {sample, 0, 1, 1 << 56, 255}} {
		back, e := Unwords(Words(list...))
		if !slices.Equal(back, list) || e != api.OK {
			t.Errorf("P2.1: Unwords(Words(%x)) = %x, %d", list, back, e)
		}
	}
	for size := range 33 {
		b := bytes.Repeat([]byte{7}, size)
		list, e := Unwords(b)
		if size%8 != 0 {
			if e != api.ErrSize || len(list) != 0 {
				t.Errorf("P2.1: Unwords(%d bytes) = %x, %d", size, list, e)
			}
		} else if e != api.OK || len(list) != size/8 || !bytes.Equal(Words(list...), b) {
			t.Errorf("P2.1: Unwords(%d bytes) = %x, %d", size, list, e)
		}
	}
}

// P2.2

func TestCrc(t *testing.T) {
	for s, want := range map[string]uint32{"": 0, "123456789": 0xCBF43926, "a": 0xE8B7BE43, "\x00": 0xD202EF8D} {
		if got := Crc([]byte(s)); got != want {
			t.Errorf("P2.2: Crc(%q) = %x", s, got)
		}
	}
	if Crc(nil) != 0 {
		t.Errorf("P2.2: Crc(nil) = %x", Crc(nil))
	}
	b := allBytes()
	for n := range len(b) + 1 {
		if got, want := Crc(b[:n]), crc32.ChecksumIEEE(b[:n]); got != want {
			t.Errorf("P2.2: Crc of %d bytes = %x, want %x", n, got, want)
		}
	}
}

// allBytes: each value, and some of them again.
func allBytes() []byte {
	var b []byte
	for i := range 300 {
		b = append(b, byte(i*167+i/256))
	}
	return b
}

func TestSumHoweverCut(t *testing.T) {
	b := allBytes()
	for i := range len(b) + 1 {
		var s Sum
		s.Add(b[:i]...)
		if s.Value() != Crc(b[:i]) || s.Value() != Crc(b[:i]) {
			t.Errorf("P2.2: cut at %d: Value ahead of the end", i)
		}
		s.Add()
		s.Add(b[i:]...)
		if s.Value() != Crc(b) {
			t.Errorf("P2.2: cut at %d: %x", i, s.Value())
		}
	}
	var one, other Sum
	for _, x := range b {
		one.Add(x)
	}
	if one.Value() != Crc(b) || other.Value() != 0 {
		t.Errorf("P2.2: byte by byte: %x, of nothing: %x", one.Value(), other.Value())
	}
}

// P2.3

func TestOneByteChanges(t *testing.T) {
	b := allBytes()[:60]
	sum := Crc(b)
	for i, was := range b {
		for x := range 256 {
			b[i] = byte(x)
			if (Crc(b) == sum) != (byte(x) == was) {
				t.Errorf("P2.3: byte %d, %d for %d: %x", i, x, was, Crc(b))
			}
		}
		b[i] = was
	}
}

// P2.4

// model: a set of bits as a list of truths.
type model []bool

func (m model) next(i int) int {
	for k := max(i, 0); k < len(m); k++ {
		if m[k] {
			return k
		}
	}
	return -1
}

func (m model) below(i int) int {
	count := 0
	for k := range min(max(i, 0), len(m)) {
		if m[k] {
			count++
		}
	}
	return count
}

// checkBits: does the set answer at all places, and around them, as the model does?
func checkBits(t *testing.T, s *Bits, m model) {
	t.Helper()
	if s.Size() != len(m) {
		t.Errorf("P2.4: Size = %d, want %d", s.Size(), len(m))
	}
	places := []int{math.MinInt, math.MaxInt, -64, -1, len(m) + 63, len(m) + 64, len(m) + 1000}
	for i := range len(m) + 2 {
		places = append(places, i)
	}
	for _, i := range places {
		if s.Has(i) != (i >= 0 && i < len(m) && m[i]) || s.Next(i) != m.next(i) || s.Below(i) != m.below(i) {
			t.Errorf("P2.4: of %d, at %d: Has %v, Next %d, Below %d", len(m), i, s.Has(i), s.Next(i), s.Below(i))
		}
	}
}

func TestBits(t *testing.T) {
	random := rand.New(rand.NewSource(1))
	for _, size := range []int{0, 1, 2, 63, 64, 65, 127, 128, 129, 300} {
		s, m := NewBits(size), make(model, size)
		checkBits(t, s, m)
		for range 2 * size {
			i, on := random.Intn(size), random.Intn(3) > 0
			if s.Set(i, on) != (m[i] != on) {
				t.Errorf("P2.4: of %d: Set(%d, %v) was %v", size, i, on, m[i])
			}
			m[i] = on
		}
		checkBits(t, s, m)
		for i := range size {
			s.Set(i, true)
			m[i] = true
		}
		checkBits(t, s, m)
		for i := range size {
			if !s.Set(i, false) {
				t.Errorf("P2.4: of %d: Set(%d, false) told nothing", size, i)
			}
		}
		checkBits(t, s, make(model, size))
	}
}

func TestBitsExample(t *testing.T) {
	s := NewBits(100)
	if !s.Set(3, true) || !s.Set(70, true) || s.Next(4) != 70 || s.Below(70) != 1 || s.Next(71) != -1 || s.Below(71) != 2 {
		t.Errorf("P2.4: Next(4) = %d, Below(70) = %d", s.Next(4), s.Below(70))
	}
}

func TestBitsSizes(t *testing.T) {
	for n, want := range map[int]int{math.MinInt: 0, -1: 0, 0: 0, 1: 1, 64: 64, api.MaxHeap - 1: api.MaxHeap - 1, api.MaxHeap: api.MaxHeap, api.MaxHeap + 1: api.MaxHeap, math.MaxInt: api.MaxHeap} {
		s := NewBits(n)
		if s.Size() != want || s.Next(0) != -1 || s.Below(want) != 0 {
			t.Errorf("P2.4: NewBits(%d) has %d", n, s.Size())
		}
		last := want - 1
		if s.Set(last, true) != (want > 0) || s.Has(last) != (want > 0) || s.Set(want, true) || s.Has(want) {
			t.Errorf("P2.4: NewBits(%d): its last number", n)
		}
		if want > 0 && (s.Next(0) != last || s.Below(last) != 0 || s.Below(want) != 1) {
			t.Errorf("P2.4: NewBits(%d): Next %d, Below %d", n, s.Next(0), s.Below(want))
		}
	}
}

// Numbers that can't be in a set are told as no change, and change nothing, whichever way they are put.
func TestBitsOutside(t *testing.T) {
	for _, size := range []int{0, 1, 64, 70} {
		s, m := NewBits(size), make(model, size)
		for _, i := range []int{math.MinInt, -64, -1, size, size + 1, size + 63, size + 64, math.MaxInt} {
			if s.Set(i, true) || s.Set(i, false) || s.Has(i) {
				t.Errorf("P2.4: of %d: %d is taken", size, i)
			}
		}
		checkBits(t, s, m)
	}
}

func TestZeroBits(t *testing.T) {
	var zero Bits
	for _, s := range []*Bits{&zero, nil, zero.Clone(), (*Bits)(nil).Clone()} {
		checkBits(t, s, nil)
		if s.Set(0, true) || s.Set(-1, true) || s.Has(0) || !s.Same(NewBits(0)) || !NewBits(-5).Same(s) || s.Same(NewBits(1)) || NewBits(1).Same(s) {
			t.Errorf("P2.4: the zero Bits has something")
		}
	}
}

func TestSame(t *testing.T) {
	for _, size := range []int{1, 64, 65, 200} {
		s := NewBits(size)
		s.Set(0, true)
		if !s.Same(s) || !s.Same(s.Clone()) || s.Same(NewBits(size)) || NewBits(size).Same(s) {
			t.Errorf("P2.4: of %d: Same", size)
		}
		wider := NewBits(size + 1)
		wider.Set(0, true)
		if s.Same(wider) || wider.Same(s) {
			t.Errorf("P2.4: of %d: Same as a greater one", size)
		}
		for i := range size {
			c := s.Clone()
			c.Set(i, !s.Has(i))
			if s.Same(c) || c.Same(s) {
				t.Errorf("P2.4: of %d: Same but for %d", size, i)
			}
			c.Set(i, s.Has(i))
			if !s.Same(c) {
				t.Errorf("P2.4: of %d: not Same, though %d is put back", size, i)
			}
		}
	}
}

// P2.5

func TestHandedInStays(t *testing.T) {
	b := roomy[byte](0xEE, 1, 2, 3, 4, 5, 6, 7, 8)
	spare := bytes.Clone(b[:cap(b)])
	Put(b, sample, 8)
	Get(b, 8)
	Unwords(b)
	Crc(b)
	var s Sum
	s.Add(b...)
	if !bytes.Equal(b[:cap(b)], spare) {
		t.Errorf("P2.5: bytes were changed: %x", b[:cap(b)])
	}
	list := roomy[uint64](0xEE, 1, 2, 3)
	spareWords := slices.Clone(list[:cap(list)])
	Words(list...)
	if !slices.Equal(list[:cap(list)], spareWords) {
		t.Errorf("P2.5: words were changed: %x", list[:cap(list)])
	}
}

func TestAnswersAreNew(t *testing.T) {
	b := roomy[byte](0, 1, 2, 3, 4, 5, 6, 7, 8)
	for n := range 9 {
		one, other := Put(b, sample, n), Put(b, sample, n)
		for i := range one {
			one[i] ^= 0xFF
		}
		_ = append(one, 0xFF)
		if !bytes.Equal(b, []byte{1, 2, 3, 4, 5, 6, 7, 8}) || !bytes.Equal(other, Put(b, sample, n)) {
			t.Errorf("P2.5: Put of %d bytes shares memory", n)
		}
	}
	words, again := Words(1, 2), Words(1, 2)
	words[0] = 9
	if again[0] != 1 {
		t.Errorf("P2.5: Words share memory")
	}
	list, _ := Unwords(again)
	again[0] = 9
	if list[0] != 1 {
		t.Errorf("P2.5: Unwords keeps what it was handed")
	}
}

func TestSumKeepsNothing(t *testing.T) {
	var s Sum
	b := []byte("12345")
	s.Add(b...)
	b[0] = 'x'
	s.Add([]byte("6789")...)
	if s.Value() != 0xCBF43926 {
		t.Errorf("P2.5: Sum keeps what it was handed: %x", s.Value())
	}
}

func TestCloneIsNew(t *testing.T) {
	s := NewBits(130)
	s.Set(129, true)
	c := s.Clone()
	c.Set(5, true)
	s.Set(129, false)
	if s.Has(5) || !c.Has(129) || s.Next(0) != -1 || c.Below(130) != 2 {
		t.Errorf("P2.5: a Clone shares memory")
	}
	other := NewBits(130)
	if other.Next(0) != -1 {
		t.Errorf("P2.5: NewBits share memory")
	}
}
