package image

import (
	"bytes"
	"encoding/binary"
	"hash/crc32"
	"math"
	"slices"
	"testing"

	"foundling/api"
	"foundling/head"
	"foundling/heap"
)

// fresh: a new heap.
func fresh(t *testing.T, cells int) *heap.Heap {
	t.Helper()
	h, e := heap.New(cells)
	if e != api.OK {
		t.Fatalf("heap.New(%d): %d", cells, e)
	}
	return h
}

// object: a new one with these words.
func object(t *testing.T, h *heap.Heap, class api.Word, kind int, words ...api.Word) api.Word {
	t.Helper()
	w, e := h.Alloc(class, kind, len(words), 1)
	if e != api.OK {
		t.Fatalf("heap.Alloc: %d", e)
	}
	for i, x := range words {
		h.Put(w, i, x)
	}
	return w
}

// encoded: an image, which there must be.
func encoded(t *testing.T, h *heap.Heap, root api.Word) []byte {
	t.Helper()
	before := h.Clone()
	b, e := Encode(h, root)
	if e != api.OK || !h.Same(before) {
		t.Fatalf("P7.1: Encode: %d", e)
	}
	return b
}

// bytesOf: an image as the chapter says it, byte by byte, by the library's means.
func bytesOf(version uint32, count, last, root uint64, words ...api.Word) []byte {
	b := binary.LittleEndian.AppendUint32([]byte("FNDL"), version)
	for _, x := range []uint64{count, last, root} {
		b = binary.LittleEndian.AppendUint64(b, x)
	}
	for _, x := range words {
		b = binary.LittleEndian.AppendUint64(b, uint64(x))
	}
	return binary.LittleEndian.AppendUint32(b, crc32.ChecksumIEEE(b))
}

// image: of words, with a root and a last hash.
func image(last uint64, root api.Word, words ...api.Word) []byte {
	return bytesOf(1, uint64(len(words)), last, uint64(root), words...)
}

// summed: the same bytes with the checksum that they ask for.
func summed(b []byte) []byte {
	body := b[:len(b)-4]
	return binary.LittleEndian.AppendUint32(slices.Clone(body), crc32.ChecksumIEEE(body))
}

// checkError: does Decode tell this error, and nothing else?
func checkError(t *testing.T, promise string, b []byte, cells int, want api.Errno) {
	t.Helper()
	before := slices.Clone(b)
	h, root, e := Decode(b, cells)
	if e != want || h != nil || root != 0 {
		t.Errorf("%s: Decode(%x, %d): heap %t, root %x, %d; want %d", promise, b, cells, h != nil, root, e, want)
	}
	if !bytes.Equal(b, before) {
		t.Errorf("P7.5: Decode changes its bytes")
	}
}

// pair: memory of two objects, none of whose parts is like another one.
func pair(t *testing.T) (*heap.Heap, api.Word) {
	t.Helper()
	h := fresh(t, 30)
	a := object(t, h, 4, head.Fields, 14, 0, 77)
	b, _ := h.Alloc(a, head.Raw, 9, 0)
	for i := range 9 {
		h.PutByte(b, i, byte(200+i))
	}
	h.Tag(b)
	h.Tag(a)
	h.SetMark(b, true)
	return h, b
}

// P7.1

func TestEncode(t *testing.T) {
	h, root := pair(t)
	want := image(2, root,
		4, 3|2<<40, 14, 0, 77,
		4, 9|2<<32|1<<36|1<<40, 0xCFCECDCCCBCAC9C8, 0xD0)
	if got := encoded(t, h, root); !bytes.Equal(got, want) {
		t.Errorf("P7.1: Encode = %x, want %x", got, want)
	}
	if got := encoded(t, h, 4); !bytes.Equal(got[24:32], []byte{4, 0, 0, 0, 0, 0, 0, 0}) {
		t.Errorf("P7.1: Encode with another root: %x", got)
	}
}

// The chapter's example.
func TestEncodeExample(t *testing.T) {
	h := fresh(t, 16)
	c := object(t, h, 4, head.Fields, 3)
	r := object(t, h, c, head.Slots, c)
	b := encoded(t, h, r)
	if len(b) != 36+48 {
		t.Errorf("P7.1: example 1: %d bytes", len(b))
	}
	if !bytes.Equal(b, image(0, 10, 4, 1, 3, 4, 1|1<<32, 4)) {
		t.Errorf("P7.1: example 1: %x", b)
	}
}

// What is loose is no matter of Encode's, but of Decode's.
func TestEncodeLoose(t *testing.T) {
	h := fresh(t, 16)
	w := object(t, h, 4000, head.Slots, 6)
	checkError(t, "P7.2", encoded(t, h, w), 16, api.ErrKind)
}

func TestEncodeWrong(t *testing.T) {
	h, _ := pair(t)
	for _, root := range []api.Word{0, 1, 2, 5, 6, 8, 15, 16, 22, 24, 1 << 25, 4 + 1<<25, 4 | 1<<63, math.MaxUint64} {
		if b, e := Encode(h, root); b != nil || e != api.ErrKind {
			t.Errorf("P7.1: Encode with the root %x: %x, %d", root, b, e)
		}
	}
	for _, h := range []*heap.Heap{fresh(t, 16), nil} {
		if b, e := Encode(h, 4); b != nil || e != api.ErrKind {
			t.Errorf("P7.1: Encode of an empty heap: %x, %d", b, e)
		}
	}
}

// In a heap of any cells that are enough, the least of all 16; with one less it is ErrFull.
func TestDecodeCells(t *testing.T) {
	h, root := pair(t)
	b := encoded(t, h, root)
	for _, cells := range []int{16, 17, 30, 1000, api.MaxHeap} {
		checkBack(t, b, cells, h, root)
	}
	h = fresh(t, 40)
	root = object(t, h, 4, head.Slots, make([]api.Word, 20)...)
	b = encoded(t, h, root)
	checkBack(t, b, 24, h, root)
	checkError(t, "P7.1", b, 23, api.ErrFull)
	checkError(t, "P7.1", b, 16, api.ErrFull)
}

// checkBack: does an image become the same memory, in so many cells? And that the same image?
func checkBack(t *testing.T, b []byte, cells int, h *heap.Heap, root api.Word) {
	t.Helper()
	g, r, e := Decode(b, cells)
	if e != api.OK || r != root {
		t.Errorf("P7.1: Decode(.., %d): root %x, %d; want %x", cells, r, e, root)
		return
	}
	if g.Cells() != cells || g.Last() != h.Last() || !slices.Equal(g.Words(), h.Words()) || !Closed(g) {
		t.Errorf("P7.1: Decode(.., %d): %d cells, last %d, %x", cells, g.Cells(), g.Last(), g.Words())
	}
	if again := encoded(t, g, r); !bytes.Equal(again, b) {
		t.Errorf("P7.1: Encode of Decode: %x, want %x", again, b)
	}
}

// Memory that is full to its last cell, and the greatest there is.
func TestDecodeFull(t *testing.T) {
	h := fresh(t, 16)
	root := object(t, h, 4, head.Slots, 4, 0, 1, 4, 0, 1, 4, 0, 1, 4, 0, 1)
	if h.Free() != 0 {
		t.Fatalf("%d cells are free", h.Free())
	}
	checkBack(t, encoded(t, h, root), 16, h, root)
	h = fresh(t, api.MaxHeap)
	for h.Free() >= api.MaxObject+2 {
		root = object(t, h, 4, head.Raw)
		root, _ = h.Alloc(root, head.Slots, api.MaxObject-2, root)
	}
	root, e := h.Alloc(root, head.Slots, h.Free()-2, 0)
	if e != api.OK || h.Free() != 0 {
		t.Fatalf("%d, %d cells are free", e, h.Free())
	}
	b := encoded(t, h, root)
	g, r, e := Decode(b, api.MaxHeap)
	if e != api.OK || r != root || !g.Same(h) {
		t.Errorf("P7.1: the greatest memory: %d", e)
	}
}

// P7.2

// The order of errors: each image has the fault that is told, and others that stand behind it in the order.
func TestDecodeOrder(t *testing.T) {
	badSum := func(b []byte) []byte { b[len(b)-1]++; return b }
	long := make([]byte, 1<<28+1)
	empty := []api.Word{4, 0}
	for i, c := range []struct {
		b     []byte
		cells int
		want  api.Errno
	}{
		{nil, 15, api.ErrSize}, {nil, -1, api.ErrSize}, {nil, math.MinInt, api.ErrSize}, {nil, api.MaxHeap + 1, api.ErrSize}, {nil, math.MaxInt, api.ErrSize},
		{image(0, 4, empty...), 15, api.ErrSize}, {image(0, 4, empty...), api.MaxHeap + 1, api.ErrSize},
		{long, 16, api.ErrSize}, {long, 15, api.ErrSize}, {long[:1<<28], 16, api.ErrForm},
		{nil, 16, api.ErrEnd}, {[]byte{}, 16, api.ErrEnd}, {[]byte("FNDM"), 16, api.ErrEnd}, {long[:35], 16, api.ErrEnd}, {long[:36], 16, api.ErrForm},
		{bytesOf(2, 9, 1<<24, 0), 16, api.ErrForm}, {badSum(bytesOf(0, 0, 0, 4)), 16, api.ErrForm}, {bytesOf(1+1<<24, 0, 0, 4), 16, api.ErrForm}, {append([]byte("FMDL"), bytesOf(1, 9, 0, 4)[4:]...), 16, api.ErrForm}, {append([]byte("fndl"), bytesOf(1, 0, 0, 4)[4:]...), 16, api.ErrForm},
		{badSum(bytesOf(1, 1, 1<<24, 0)), 16, api.ErrEnd}, {badSum(bytesOf(1, 3, 0, 0, 5, 5)), 16, api.ErrEnd}, {bytesOf(1, 1<<24, 0, 4, empty...), 16, api.ErrEnd},
		{bytesOf(1, 1<<61, 0, 4), 16, api.ErrEnd}, {bytesOf(1, 1<<61+2, 0, 4, empty...), 16, api.ErrEnd}, {bytesOf(1, 1<<63+2, 0, 4, empty...), 16, api.ErrEnd}, {bytesOf(1, math.MaxUint64, 0, 4, empty...), 16, api.ErrEnd}, {bytesOf(1, 1<<32+2, 0, 4, empty...), 16, api.ErrEnd},
		{badSum(bytesOf(1, 0, 1<<24, 0, 5)), 16, api.ErrSize}, {badSum(bytesOf(1, 1, 0, 0, 4, 0)), 16, api.ErrSize},
		{badSum(image(1<<24, 0, 5)), 16, api.ErrSum}, {badSum(image(0, 4, slices.Repeat(empty, 8)...)), 16, api.ErrSum}, {badSum(image(0, 4, empty...)), 16, api.ErrSum},
		{image(1<<24, 0, slices.Repeat([]api.Word{5}, 15)...), 16, api.ErrFull}, {image(math.MaxUint64, 0, slices.Repeat(empty, 8)...), 16, api.ErrFull},
		{image(1<<24, 0), 16, api.ErrForm}, {image(1<<24, 4, empty...), 16, api.ErrForm}, {image(1<<32, 4, empty...), 16, api.ErrForm}, {image(1<<32+7, 4, empty...), 16, api.ErrForm}, {image(math.MaxUint64, 4, empty...), 16, api.ErrForm},
		{image(0, 0, 4), 16, api.ErrForm}, {image(0, 0, 5, 0), 16, api.ErrForm}, {image(0, 4, 0, 0), 16, api.ErrForm}, {image(0, 4, 4, 0, 4), 16, api.ErrForm}, {image(0, 4, 4, 1<<40), 16, api.ErrForm}, {image(7, 4, 4, 1<<40, 4, 1<<40), 16, api.ErrForm}, {image(0, 4, 4, 1, 6, 7), 16, api.ErrForm},
		{image(0, 0), 16, api.ErrKind}, {image(0, 4), 16, api.ErrKind}, {image(0, 0, empty...), 16, api.ErrKind}, {image(0, 1, empty...), 16, api.ErrKind}, {image(0, 5, empty...), 16, api.ErrKind}, {image(0, 6, empty...), 16, api.ErrKind}, {image(0, 8, empty...), 16, api.ErrKind}, {image(0, 4+1<<32, empty...), 16, api.ErrKind}, {image(0, 4+1<<63, empty...), 16, api.ErrKind},
		{image(0, 4, 6, 0), 16, api.ErrKind}, {image(0, 4, 1<<40, 0), 16, api.ErrKind}, {image(0, 4, 4, 1, 6), 16, api.ErrKind}, {image(0, 4, 4, 1, 2), 16, api.ErrKind}, {image(0, 4, 4, 2|1<<32, 1, 1<<63), 16, api.ErrKind}, {image(0, 4, 4, 0, 10, 0), 16, api.ErrKind},
	} {
		h, root, e := Decode(c.b, c.cells)
		if e != c.want || h != nil || root != 0 {
			t.Errorf("P7.2: case %d: Decode: heap %t, root %x, %d; want %d", i, h != nil, root, e, c.want)
		}
	}
}

// A word 0, numbers, and what a Raw object has, may be; marks and hashes too.
func TestDecodeTakes(t *testing.T) {
	for _, words := range [][]api.Word{
		{4, 0}, {4, 0, 4, 0}, {4, 2, 0, 0}, {4, 2 | 1<<32, 1, math.MaxUint64}, {4, 1 | 1<<32, 4}, {4, 16 | 2<<32, 6, 1 << 40}, {4, 1 << 36}, {4, 1<<40 | 1<<36, 4, 2 << 40}, {8, 0, 8, 0},
	} {
		for _, last := range []uint64{2, 3, 1<<24 - 1} {
			h, e := heap.Load(16, uint32(last), words...)
			if e != api.OK {
				t.Fatalf("heap.Load of %x: %d", words, e)
			}
			checkBack(t, image(last, 4, words...), 16, h, 4)
		}
	}
}

// P7.3, and bytes that are cut short, or with more behind them.
func TestOtherBytes(t *testing.T) {
	h, root := pair(t)
	b := encoded(t, h, root)
	want := func(at int) api.Errno {
		switch {
		case at < 8:
			return api.ErrForm
		case at < 16: // the count: greater, unless it is its lowest byte
			return api.ErrEnd
		}
		return api.ErrSum
	}
	for at := range b {
		was := b[at]
		for x := range 256 {
			if byte(x) == was {
				continue
			}
			b[at] = byte(x)
			w := want(at)
			if at == 8 && byte(x) < was {
				w = api.ErrSize
			}
			checkError(t, "P7.3", b, 30, w)
		}
		b[at] = was
	}
	for n := range b {
		checkError(t, "P7.2", b[:n], 30, api.ErrEnd)
	}
	checkError(t, "P7.2", append(slices.Clone(b), 0), 30, api.ErrSize)
	checkError(t, "P7.2", append(slices.Clone(b), b...), 30, api.ErrSize)
	checkBack(t, b, 30, h, root)
}
