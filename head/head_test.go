package head

import (
	"math"
	"testing"

	"foundling/api"
)

const topClass = math.MaxUint64 - 1 // the greatest word that is no number

func goodClasses() []api.Word { return []api.Word{2, 4, 6, 1 << 25, 1 << 32, 1 << 63, topClass} }
func badClasses() []api.Word  { return []api.Word{0, 1, 3, 11, 1<<25 + 1, 1<<63 + 1, math.MaxUint64} }
func goodSizes() []int        { return []int{0, 1, 2, 7, 8, 9, api.MaxObject - 1, api.MaxObject} }
func badSizes() []int {
	return []int{-1, -8, math.MinInt, api.MaxObject + 1, 1<<31 - 1, 1 << 32, 1<<32 + 3, math.MaxInt}
}
func goodHashes() []uint32 { return []uint32{0, 1, 5, 255, 1<<23 + 1, 1<<24 - 1} }
func badHashes() []uint32  { return []uint32{1 << 24, 1<<24 + 1, 1 << 31, math.MaxUint32} }
func goodKinds() []int     { return []int{Fields, Slots, Raw} }
func badKinds() []int      { return []int{-1, 3, 4, 15, 16, 17, 1 << 32, math.MinInt, math.MaxInt} }

// everyHead: all heads of these parts.
func everyHead(classes []api.Word, kinds, sizes []int, hashes []uint32) []Head {
	var out []Head
	for _, c := range classes {
		for _, k := range kinds {
			for _, n := range sizes {
				for _, x := range hashes {
					out = append(out, Head{c, k, n, x, false}, Head{c, k, n, x, true})
				}
			}
		}
	}
	return out
}

func goodHeads() []Head {
	return everyHead(goodClasses(), goodKinds(), goodSizes(), goodHashes())
}

// packed: as the document says it, by sums.
func packed(h Head) [2]api.Word {
	w := api.Word(h.Size) + api.Word(h.Kind)*4294967296 + api.Word(h.Hash)*1099511627776
	if h.Mark {
		w += 68719476736
	}
	return [2]api.Word{h.Class, w}
}

// P3.1

func TestKinds(t *testing.T) {
	if Fields != 0 || Slots != 1 || Raw != 2 {
		t.Errorf("P3.1: kinds %d, %d, %d", Fields, Slots, Raw)
	}
}

func TestPack(t *testing.T) {
	if w, e := Pack(Head{Class: 4, Kind: Slots, Size: 3, Hash: 5}); e != api.OK || w != [2]api.Word{4, 5<<40 + 1<<32 + 3} {
		t.Errorf("P3.1: the example: %x, %d", w, e)
	}
	for _, h := range goodHeads() {
		if w, e := Pack(h); e != api.OK || w != packed(h) {
			t.Errorf("P3.1: Pack(%+v) = %x, %d", h, w, e)
		}
	}
}

func TestUnpack(t *testing.T) {
	for _, h := range goodHeads() {
		if got, e := Unpack(packed(h)); e != api.OK || got != h {
			t.Errorf("P3.1: Unpack(%x) = %+v, %d; want %+v", packed(h), got, e, h)
		}
	}
}

// Of several errors the least one is told: of the class, then the size, then the hash, then the kind.
func TestPackWrong(t *testing.T) {
	check := func(heads []Head, want api.Errno) {
		t.Helper()
		for _, h := range heads {
			if w, e := Pack(h); e != want || w != [2]api.Word{} {
				t.Errorf("P3.1: Pack(%+v) = %x, %d; want %d", h, w, e, want)
			}
		}
	}
	allKinds, allSizes := append(goodKinds(), badKinds()...), append(goodSizes(), badSizes()...)
	allHashes := append(goodHashes(), badHashes()...)
	check(everyHead(badClasses(), allKinds, allSizes, allHashes), api.ErrArg)
	check(everyHead(goodClasses(), allKinds, badSizes(), allHashes), api.ErrSize)
	check(everyHead(goodClasses(), allKinds, goodSizes(), badHashes()), api.ErrOver)
	check(everyHead(goodClasses(), badKinds(), goodSizes(), goodHashes()), api.ErrKind)
}

// isHead: are the words a head's? By division, other than Unpack does it.
func isHead(w [2]api.Word) bool {
	size, kind, rest := w[1]%(1<<32), w[1]/(1<<32)%16, w[1]/(1<<36)%16
	return w[0] != 0 && w[0]%2 == 0 && size <= api.MaxObject && kind <= 2 && rest <= 1
}

func checkWords(t *testing.T, w [2]api.Word) {
	t.Helper()
	h, e := Unpack(w)
	if !isHead(w) {
		if e != api.ErrForm || h != (Head{}) {
			t.Errorf("P3.1: Unpack(%x) = %+v, %d", w, h, e)
		}
		return
	}
	if back, e2 := Pack(h); e != api.OK || e2 != api.OK || back != w {
		t.Errorf("P3.1: Unpack(%x) = %+v, %d, and back %x, %d", w, h, e, back, e2)
	}
}

func TestUnpackWrong(t *testing.T) {
	for _, c := range append(goodClasses(), badClasses()...) {
		for _, second := range []api.Word{0, 3, api.MaxObject, api.MaxObject + 1, 1<<32 - 1, 1 << 31, 2 << 32, 3 << 32, 4 << 32, 8 << 32, 15 << 32, 1 << 36, 1 << 37, 1 << 38, 1 << 39, 7 << 37, 1 << 40, 1<<40 - 1, 1 << 63, math.MaxUint64, 1<<64 - 1<<40} {
			checkWords(t, [2]api.Word{c, second})
		}
	}
	for _, w := range [][2]api.Word{{}, {0, 3}, {1, 3}, {2, api.MaxObject + 1}, {2, 3 << 32}, {2, 1 << 37}, {2, 1 << 39}} {
		if h, e := Unpack(w); e != api.ErrForm || h != (Head{}) {
			t.Errorf("P3.1: Unpack(%x) = %+v, %d", w, h, e)
		}
	}
}

// Each bit, and each two bits, of a head's words turned over.
func TestUnpackTurned(t *testing.T) {
	turned := func(w [2]api.Word, bit int) [2]api.Word {
		w[bit/64] ^= 1 << (bit % 64)
		return w
	}
	for _, h := range everyHead([]api.Word{2, 4, topClass}, goodKinds(), []int{0, 3, api.MaxObject}, []uint32{0, 1<<24 - 1}) {
		for i := range 128 {
			for k := range i + 1 {
				w := turned(turned(packed(h), i), k)
				checkWords(t, w)
				if back, e := Unpack(w); i != k && e == api.OK && back == h {
					t.Errorf("P3.1: two words are the head %+v", h)
				}
			}
		}
	}
}

func TestPackIsOne(t *testing.T) {
	seen := map[[2]api.Word]Head{}
	for _, h := range goodHeads() {
		w, _ := Pack(h)
		if other, ok := seen[w]; ok {
			t.Errorf("P3.1: %+v and %+v are the same words", h, other)
		}
		seen[w] = h
	}
}

// P3.2

func TestCells(t *testing.T) {
	for _, h := range goodHeads() {
		want := h.Size
		if h.Kind == Raw {
			for want = 0; 8*want < h.Size; want++ {
			}
		}
		if n := Cells(h); n != want {
			t.Errorf("P3.2: Cells(%+v) = %d, want %d", h, n, want)
		}
	}
	for size, want := range []int{0, 1, 1, 1, 1, 1, 1, 1, 1, 2, 2, 2, 2, 2, 2, 2, 2, 3} {
		if n := Cells(Head{Class: 2, Kind: Raw, Size: size}); n != want {
			t.Errorf("P3.2: Cells of %d bytes = %d", size, n)
		}
	}
	if n := Cells(Head{Class: 2, Kind: Raw, Size: api.MaxObject}); n != 1<<17 {
		t.Errorf("P3.2: Cells of the greatest Raw one = %d", n)
	}
}

func TestCellsWrong(t *testing.T) {
	wrong := []Head{{}, {Class: 1, Size: 3}, {Size: 3}, {Class: 2, Size: 3, Kind: 3}, {Class: 2, Size: 3, Kind: -1}, {Class: 2, Size: -1}, {Class: 2, Size: -9, Kind: Raw}, {Class: 2, Size: api.MaxObject + 1}, {Class: 2, Size: math.MaxInt, Kind: Raw}, {Class: 2, Size: math.MinInt, Kind: Raw}, {Class: 2, Size: 3, Hash: 1 << 24}}
	for _, h := range wrong {
		if n := Cells(h); n != 0 {
			t.Errorf("P3.2: Cells(%+v) = %d", h, n)
		}
	}
}

// P3.3

func TestPointer(t *testing.T) {
	for at, want := range map[int]api.Word{1: 2, 2: 4, 6: 12, 1 << 20: 1 << 21, api.MaxHeap - 2: 1<<25 - 4, api.MaxHeap - 1: 1<<25 - 2} {
		if w, e := Pointer(at); w != want || e != api.OK {
			t.Errorf("P3.3: Pointer(%d) = %x, %d", at, w, e)
		}
		if back, e := At(want); back != at || e != api.OK {
			t.Errorf("P3.3: At(%x) = %d, %d", want, back, e)
		}
	}
	for _, at := range []int{0, -1, -2, api.MaxHeap, api.MaxHeap + 1, 1 << 32, 1<<62 + 1, math.MinInt, math.MinInt + 1, math.MaxInt} {
		if w, e := Pointer(at); w != 0 || e != api.ErrArg {
			t.Errorf("P3.3: Pointer(%d) = %x, %d", at, w, e)
		}
	}
}

func TestAtWrong(t *testing.T) {
	for _, w := range []api.Word{0, 1, 3, 5, 1<<25 - 1, 1 << 25, 1<<25 + 1, 1<<25 + 2, 1<<32 + 4, 1 << 63, 1<<63 + 4, topClass, math.MaxUint64} {
		if at, e := At(w); at != 0 || e != api.ErrKind {
			t.Errorf("P3.3: At(%x) = %d, %d", w, at, e)
		}
	}
}

func TestPointerAt(t *testing.T) {
	for at := 1; at < api.MaxHeap; at += 1 + at/7 {
		w, e := Pointer(at)
		if back, e2 := At(w); e != api.OK || e2 != api.OK || back != at {
			t.Errorf("P3.3: At(Pointer(%d)) = %d, %d, %d", at, back, e, e2)
		}
	}
}
