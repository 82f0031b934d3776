package heap

import (
	"math"
	"slices"
	"testing"

	"foundling/api"
	"foundling/head"
)

// fresh: a new heap.
func fresh(t *testing.T, cells int) *Heap {
	t.Helper()
	h, e := New(cells)
	if e != api.OK {
		t.Fatalf("P4.1: New(%d): %d", cells, e)
	}
	return h
}

// object: a new one, which there must be room for.
func object(t *testing.T, h *Heap, class api.Word, kind, size int, fill api.Word) api.Word {
	t.Helper()
	w, e := h.Alloc(class, kind, size, fill)
	if e != api.OK {
		t.Fatalf("P4.1: Alloc(%x, %d, %d, %x): %d", class, kind, size, fill, e)
	}
	return w
}

// load: a heap of words, which must be taken.
func load(t *testing.T, cells int, last uint32, words ...api.Word) *Heap {
	t.Helper()
	h, e := Load(cells, last, words...)
	if e != api.OK {
		t.Fatalf("P4.4: Load(%d, %d, %x): %d", cells, last, words, e)
	}
	return h
}

// P4.1

func TestExample(t *testing.T) {
	h := fresh(t, 16)
	if w, e := h.Alloc(2, head.Slots, 3, 1); w != 4 || e != api.OK || h.Used() != 7 || h.Free() != 9 {
		t.Errorf("P4.1: Alloc = %x, %d, Used %d", w, e, h.Used())
	}
	for i := range 3 {
		if x, e := h.Get(4, i); x != 1 || e != api.OK {
			t.Errorf("P4.1: Get(4, %d) = %x, %d", i, x, e)
		}
	}
	if w, e := h.Alloc(4, head.Raw, 9, 0); w != 14 || e != api.OK || h.Used() != 11 || h.Free() != 5 {
		t.Errorf("P4.1: Alloc = %x, %d, Used %d", w, e, h.Used())
	}
	if w, e := h.Alloc(4, head.Slots, 4, 0); w != 0 || e != api.ErrFull || h.Used() != 11 {
		t.Errorf("P4.1: Alloc = %x, %d, Used %d", w, e, h.Used())
	}
}

func TestNew(t *testing.T) {
	for _, cells := range []int{16, 17, 1000, api.MaxHeap - 1, api.MaxHeap} {
		check(t, fresh(t, cells), &model{cells: cells})
	}
	for _, cells := range []int{math.MinInt, -16, -1, 0, 1, 2, 15, api.MaxHeap + 1, 1 << 32, 1<<32 + 16, math.MaxInt} {
		if h, e := New(cells); h != nil || e != api.ErrSize {
			t.Errorf("P4.1: New(%d) = %v, %d", cells, h, e)
		}
	}
}

// Whatever is done, one behind the other: all that can be asked is as in the plain model, which beside an error hasn't changed.
func TestByChance(t *testing.T) {
	for seed, cells := range []int{16, 17, 18, 23, 40, 40, 64, 65, 100, 100} {
		r := chance(t, int64(seed), cells)
		for range 120 {
			r.step()
			check(t, r.h, r.m)
			if t.Failed() {
				t.FailNow()
			}
		}
	}
}

func TestAllocWrong(t *testing.T) {
	h := fresh(t, 16)
	object(t, h, 2, head.Slots, 10, 5)
	for _, c := range []struct {
		class      api.Word
		kind, size int
		e          api.Errno
	}{
		{0, 0, 0, api.ErrArg}, {1, 0, 0, api.ErrArg}, {math.MaxUint64, 0, 0, api.ErrArg}, {3, 7, -1, api.ErrArg}, {3, 0, 99, api.ErrArg},
		{2, 0, -1, api.ErrSize}, {2, 2, -1, api.ErrSize}, {2, 9, -1, api.ErrSize}, {2, 0, api.MaxObject + 1, api.ErrSize}, {2, 0, math.MaxInt, api.ErrSize}, {2, 2, math.MinInt, api.ErrSize},
		{2, 3, 0, api.ErrKind}, {2, -1, 0, api.ErrKind}, {2, 3, 99, api.ErrKind}, {2, math.MinInt, api.MaxObject, api.ErrKind},
		{2, 0, 1, api.ErrFull}, {2, 1, 99, api.ErrFull}, {2, 2, 1, api.ErrFull}, {2, 2, api.MaxObject, api.ErrFull}, {2, 0, api.MaxObject, api.ErrFull},
	} {
		if w, e := h.Alloc(c.class, c.kind, c.size, 9); w != 0 || e != c.e || h.Used() != 14 {
			t.Errorf("P4.1: Alloc(%x, %d, %d) = %x, %d, Used %d; want %d", c.class, c.kind, c.size, w, e, h.Used(), c.e)
		}
	}
	if w, e := h.Alloc(math.MaxUint64-1, head.Fields, 0, 9); w != 28 || e != api.OK || h.Free() != 0 {
		t.Errorf("P4.1: Alloc of any class that may be: %x, %d, Free %d", w, e, h.Free())
	}
}

// Memory is filled to its last cell, by an object of each kind, and one cell short of that.
func TestFull(t *testing.T) {
	for _, c := range []struct{ kind, fits, over int }{{head.Fields, 5, 6}, {head.Slots, 5, 6}, {head.Raw, 40, 41}, {head.Raw, 33, 48}} {
		h := fresh(t, 16)
		m := &model{cells: 16}
		for _, size := range []int{5, c.over, c.fits, 0} {
			kind := c.kind
			if size == 5 {
				kind = head.Slots
			}
			w, e := h.Alloc(4, kind, size, 6)
			want, wantError := m.alloc(4, kind, size, 6)
			if w != want || e != wantError {
				t.Errorf("P4.1: Alloc(4, %d, %d) = %x, %d; want %x, %d", kind, size, w, e, want, wantError)
			}
			check(t, h, m)
		}
		if h.Free() != 0 || h.After(18) != 0 || h.After(4) != 18 {
			t.Errorf("P4.1: Free %d, After %x", h.Free(), h.After(18))
		}
	}
	h := fresh(t, 16)
	object(t, h, 4, head.Slots, 11, 1)
	if w, e := h.Alloc(4, head.Slots, 0, 1); w != 0 || e != api.ErrFull {
		t.Errorf("P4.1: an object in one cell: %x, %d", w, e)
	}
}

// The greatest memory, to its last cell.
func TestGreatest(t *testing.T) {
	h := fresh(t, api.MaxHeap)
	for range 15 {
		object(t, h, 2, head.Slots, api.MaxObject, 3)
	}
	big := object(t, h, 2, head.Slots, api.MaxObject-2-15*2-2-3, 3)
	last := object(t, h, big, head.Raw, 3, 0)
	if at, _ := head.At(last); at != api.MaxHeap-3 || h.Free() != 0 || h.After(last) != 0 || h.After(big) != last {
		t.Errorf("P4.1: the last object is at %d, Free %d", at, h.Free())
	}
	if e := h.PutByte(last, 2, 7); e != api.OK {
		t.Errorf("P4.1: PutByte in the last cell: %d", e)
	}
	if w, e := h.Alloc(2, head.Slots, 0, 0); w != 0 || e != api.ErrFull {
		t.Errorf("P4.1: Alloc of full memory: %x, %d", w, e)
	}
	words := h.Words()
	if len(words) != api.MaxHeap-2 || words[len(words)-1] != 7<<16 {
		t.Errorf("P4.4: %d words, the last %x", len(words), words[len(words)-1])
	}
	if _, e := Load(api.MaxHeap-1, 0, words...); e != api.ErrFull {
		t.Errorf("P4.4: Load with one cell too few: %d", e)
	}
	if g := load(t, api.MaxHeap, 0, words...); !g.Same(h) || g.Free() != 0 {
		t.Errorf("P4.4: Load of the greatest memory is another one")
	}
}

func TestGreatestObjects(t *testing.T) {
	h := fresh(t, 3*api.MaxObject)
	slots := object(t, h, 2, head.Slots, api.MaxObject, 5)
	raw := object(t, h, 2, head.Raw, api.MaxObject, 5)
	if h.Used() != 2+2+api.MaxObject+2+api.MaxObject/8 {
		t.Errorf("P4.1: Used = %d", h.Used())
	}
	last := api.MaxObject - 1
	if e := h.Put(slots, last, 8); e != api.OK {
		t.Errorf("P4.1: Put(.., %d): %d", last, e)
	}
	if e := h.PutByte(raw, last, 8); e != api.OK {
		t.Errorf("P4.1: PutByte(.., %d): %d", last, e)
	}
	x, e := h.Get(slots, last)
	b, e2 := h.Byte(raw, last)
	all, e3 := h.Bytes(raw)
	if x != 8 || b != 8 || len(all) != api.MaxObject || all[last] != 8 || e != 0 || e2 != 0 || e3 != 0 {
		t.Errorf("P4.1: the last word %x, byte %d, of %d", x, b, len(all))
	}
	if e := h.Put(slots, api.MaxObject, 8); e != api.ErrNone {
		t.Errorf("P4.1: Put behind the last word: %d", e)
	}
	if e := h.PutByte(raw, api.MaxObject, 8); e != api.ErrNone {
		t.Errorf("P4.1: PutByte behind the last byte: %d", e)
	}
}

// Of each call, what is told ahead of what.
func TestKindFirst(t *testing.T) {
	h := fresh(t, 16)
	slots, raw := object(t, h, 2, head.Slots, 1, 5), object(t, h, 2, head.Raw, 1, 5)
	none := append(strange(), 6, 8, 12, 14, 16, 18, 28, 32, 34)
	before := h.Clone()
	for _, w := range none {
		_, e1 := h.Get(w, -1)
		_, e2 := h.Byte(w, -1)
		_, e3 := h.Tag(w)
		for i, e := range []api.Errno{e1, e2, e3, h.Put(w, 9, 1), h.PutByte(w, 9, 1), h.SetClass(w, 1), h.SetClass(w, 0), h.SetMark(w, true), h.Swap(w, slots), h.Swap(slots, w), h.Swap(w, w)} {
			if e != api.ErrKind {
				t.Errorf("P4.1: call %d of %x: %d", i, w, e)
			}
		}
	}
	_, e1 := h.Get(raw, 9)
	_, e2 := h.Byte(slots, 9)
	for i, e := range []api.Errno{e1, e2, h.Put(raw, -1, 1), h.PutByte(slots, -1, 1)} {
		if e != api.ErrKind {
			t.Errorf("P4.1: call %d of another kind: %d", i, e)
		}
	}
	for _, class := range []api.Word{0, 1, 5, math.MaxUint64} {
		if e := h.SetClass(slots, class); e != api.ErrArg {
			t.Errorf("P4.1: SetClass(.., %x): %d", class, e)
		}
	}
	if !h.Same(before) {
		t.Errorf("P4.1: beside an error something has changed")
	}
}

// Heads' other parts stay when one of them changes.
func TestHeadStays(t *testing.T) {
	h := fresh(t, 16)
	w := object(t, h, 2, head.Fields, 3, 5)
	h.Tag(w)
	h.SetMark(w, true)
	h.SetClass(w, math.MaxUint64-1)
	if d, e := h.Head(w); e != api.OK || d != (head.Head{Class: math.MaxUint64 - 1, Kind: head.Fields, Size: 3, Hash: 1, Mark: true}) {
		t.Errorf("P4.1: Head = %+v, %d", d, e)
	}
	h.SetMark(w, true)
	h.SetClass(w, 8)
	h.SetMark(w, false)
	if d, e := h.Head(w); e != api.OK || d != (head.Head{Class: 8, Kind: head.Fields, Size: 3, Hash: 1}) {
		t.Errorf("P4.1: Head = %+v, %d", d, e)
	}
}

func TestTag(t *testing.T) {
	h := fresh(t, 16)
	a, b := object(t, h, 2, head.Slots, 0, 5), object(t, h, 2, head.Raw, 1, 5)
	for _, c := range []struct {
		w    api.Word
		want uint32
		last uint32
	}{{b, 1, 1}, {b, 1, 1}, {a, 2, 2}, {b, 1, 2}, {a, 2, 2}} {
		if n, e := h.Tag(c.w); n != c.want || e != api.OK || h.Last() != c.last {
			t.Errorf("P4.1: Tag(%x) = %d, %d, Last %d", c.w, n, e, h.Last())
		}
	}
}

// The last hash that there is, and none behind it.
func TestTagOver(t *testing.T) {
	h := load(t, 16, 1<<24-2, 4, 0, 4, 0, 4, 7<<40)
	if n, e := h.Tag(8); n != 1<<24-1 || e != api.OK || h.Last() != 1<<24-1 {
		t.Errorf("P4.1: Tag = %d, %d, Last %d", n, e, h.Last())
	}
	before := h.Clone()
	if n, e := h.Tag(4); n != 0 || e != api.ErrOver || h.Last() != 1<<24-1 || !h.Same(before) {
		t.Errorf("P4.1: Tag = %d, %d, Last %d", n, e, h.Last())
	}
	for w, want := range map[api.Word]uint32{8: 1<<24 - 1, 12: 7} {
		if n, e := h.Tag(w); n != want || e != api.OK {
			t.Errorf("P4.1: Tag(%x) = %d, %d", w, n, e)
		}
	}
}

// The bytes of an object stand in its words, the lowest first, and no byte touches another one.
func TestBytes(t *testing.T) {
	h := fresh(t, 16)
	w := object(t, h, 2, head.Raw, 10, 0)
	for i := range 10 {
		h.PutByte(w, i, byte(0xF1+i))
	}
	if got := h.Words(); !slices.Equal(got, []api.Word{2, 2<<32 + 10, 0xF8F7F6F5F4F3F2F1, 0xFAF9}) {
		t.Errorf("P4.1: Words = %x", got)
	}
	h.PutByte(w, 3, 0)
	if b, e := h.Bytes(w); e != api.OK || string(b) != "\xf1\xf2\xf3\x00\xf5\xf6\xf7\xf8\xf9\xfa" {
		t.Errorf("P4.1: Bytes = %x, %d", b, e)
	}
	empty := object(t, h, 2, head.Raw, 0, 9)
	if b, e := h.Bytes(empty); e != api.OK || len(b) != 0 {
		t.Errorf("P4.1: Bytes of an empty one = %x, %d", b, e)
	}
}

// P4.2

func TestOrder(t *testing.T) {
	h := fresh(t, 100)
	if h.First() != 0 || h.After(0) != 0 || h.After(4) != 0 {
		t.Errorf("P4.2: an empty heap has an object")
	}
	var want []api.Word
	for i, size := range []int{0, 3, 9, 0, 1, 16, 0} {
		want = append(want, object(t, h, 2, i%3, size, 6))
	}
	at := 0
	for w := h.First(); w != 0; w = h.After(w) {
		if at == len(want) || w != want[at] {
			t.Fatalf("P4.2: object %d is %x", at, w)
		}
		at++
	}
	if at != len(want) {
		t.Errorf("P4.2: %d objects, not %d", at, len(want))
	}
}

// P4.3

// What looks like the pointer, and is none: the second word of a head, and bytes.
func TestSwap(t *testing.T) {
	h := load(t, 30, 0,
		4, 1<<32+4, 4, 8, 16, 1, // at 4
		16, 2<<32+8, 4, // at 16: bytes that are 4 as a word
		4, 4, 16, 0, 7, 1<<63, // at 22: its Size is 4
	)
	want := []api.Word{
		16, 1<<32 + 4, 16, 8, 4, 1,
		4, 2<<32 + 8, 4,
		16, 4, 4, 0, 7, 1 << 63,
	}
	before := h.Clone()
	if e := h.Swap(4, 16); e != api.OK || !slices.Equal(h.Words(), want) {
		t.Errorf("P4.3: Swap: %d, %x", e, h.Words())
	}
	if e := h.Swap(16, 4); e != api.OK || !h.Same(before) {
		t.Errorf("P4.3: Swap twice: %d, %x", e, h.Words())
	}
	if e := h.Swap(22, 22); e != api.OK || !h.Same(before) {
		t.Errorf("P4.3: Swap with itself: %d, %x", e, h.Words())
	}
}

func TestSwapTwice(t *testing.T) {
	for seed := range 20 {
		r := chance(t, int64(seed), 60)
		for range 60 {
			r.step()
		}
		before := r.h.Clone()
		for a := r.h.First(); a != 0; a = r.h.After(a) {
			for b := r.h.First(); b != 0; b = r.h.After(b) {
				e, e2 := r.h.Swap(a, b), r.h.Swap(a, b)
				if e != api.OK || e2 != api.OK || !r.h.Same(before) {
					t.Fatalf("P4.3: Swap(%x, %x) twice: %d, %d", a, b, e, e2)
				}
			}
		}
	}
}

// P4.5

func TestSame(t *testing.T) {
	words := []api.Word{4, 1<<40 + 2, 5, 6, 4, 2<<32 + 9, 7, 8}
	h := load(t, 20, 3, words...)
	others := []*Heap{load(t, 21, 3, words...), load(t, 20, 4, words...), fresh(t, 20), nil, load(t, 20, 3, words[:4]...), load(t, 20, 3, append(slices.Clone(words), 4, 0)...)}
	changes := []func(g *Heap) api.Errno{
		func(g *Heap) api.Errno { return g.Put(4, 1, 7) },
		func(g *Heap) api.Errno { return g.PutByte(12, 8, 9) },
		func(g *Heap) api.Errno { return g.SetClass(12, 12) },
		func(g *Heap) api.Errno { return g.SetMark(4, true) },
		func(g *Heap) api.Errno { _, e := g.Tag(12); return e },
		func(g *Heap) api.Errno { _, e := g.Alloc(4, 0, 0, 0); return e },
	}
	for i, change := range changes {
		g := h.Clone()
		if e := change(g); e != api.OK {
			t.Errorf("P4.5: change %d: %d", i, e)
		}
		others = append(others, g)
	}
	for i, g := range others {
		if h.Same(g) || g.Same(h) {
			t.Errorf("P4.5: heap %d counts as the same", i)
		}
	}
	if g := load(t, 20, 3, words...); !h.Same(h) || !h.Same(g) || !g.Same(h) || !h.Same(h.Clone()) {
		t.Errorf("P4.5: the same heap counts as another one")
	}
}

func TestClone(t *testing.T) {
	for seed := range 10 {
		r := chance(t, int64(seed), 80)
		for range 30 {
			r.step()
		}
		other := hand{t, r.h.Clone(), r.m.clone(), r.random}
		check(t, other.h, other.m)
		for range 30 {
			r.step()
			other.step()
		}
		check(t, r.h, r.m)
		check(t, other.h, other.m)
	}
}

func TestAnswersAreNew(t *testing.T) {
	h := fresh(t, 40)
	raw := object(t, h, 2, head.Raw, 9, 0)
	object(t, h, 2, head.Slots, 2, 5)
	before := h.Clone()
	words, again := h.Words(), h.Words()
	b, _ := h.Bytes(raw)
	for i := range words {
		words[i] = 77
	}
	_ = append(words, 77, 77)
	for i := range b {
		b[i] = 77
	}
	_ = append(b, 77, 77)
	if !h.Same(before) || again[0] == 77 {
		t.Errorf("P4.5: an answer shares memory")
	}
	object(t, h, 2, head.Slots, 2, 5)
	if got := h.Words(); got[len(got)-1] != 5 || len(got) != 12 {
		t.Errorf("P4.5: Words = %x", got)
	}
}

func TestHandedInStays(t *testing.T) {
	words := make([]api.Word, 4, 30)
	copy(words, []api.Word{4, 2, 5, 6})
	spare := slices.Clone(words[:cap(words)])
	h := load(t, 30, 0, words...)
	object(t, h, 2, head.Slots, 2, 5)
	h.Put(4, 0, 99)
	h.Tag(4)
	if !slices.Equal(words[:cap(words)], spare) {
		t.Errorf("P4.5: Load's words were changed: %x", words[:cap(words)])
	}
	words[3] = 1
	if x, _ := h.Get(4, 1); x != 6 {
		t.Errorf("P4.5: Load keeps what it was handed")
	}
}

// A nil heap is what stands beside an error: it is taken, and has nothing.
func TestNilHeap(t *testing.T) {
	h, _ := New(0)
	var zero Heap
	for _, g := range []*Heap{h, &zero, h.Clone()} {
		if g.Cells() != 0 || g.Used() != 0 || g.Free() != 0 || g.First() != 0 || g.Last() != 0 || len(g.Words()) != 0 || !g.Same(h) || !g.Same(&zero) || g.Same(fresh(t, 16)) {
			t.Errorf("P4.1: a nil heap has something")
		}
		_, e := g.Alloc(2, 0, 0, 0)
		if e != api.ErrFull || g.Has(4) || g.After(4) != 0 {
			t.Errorf("P4.1: a nil heap: %d", e)
		}
		_, e1 := g.Get(4, 0)
		_, e2 := g.Byte(4, 0)
		_, e3 := g.Tag(4)
		_, e4 := g.Head(4)
		_, e5 := g.Bytes(4)
		for i, e := range []api.Errno{e1, e2, e3, e4, e5, g.Put(4, 0, 1), g.PutByte(4, 0, 1), g.SetClass(4, 2), g.SetMark(4, true), g.Swap(4, 4)} {
			if e != api.ErrKind {
				t.Errorf("P4.1: call %d of a nil heap: %d", i, e)
			}
		}
	}
}
