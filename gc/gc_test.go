package gc

import (
	"math"
	"slices"
	"testing"

	"foundling/api"
	"foundling/head"
	"foundling/heap"
	"foundling/pack"
)

// fresh: a new heap.
func fresh(t *testing.T, cells int) *heap.Heap {
	t.Helper()
	h, e := heap.New(cells)
	if e != api.OK {
		t.Fatalf("heap.New(%d): %d", cells, e)
	}
	return h
}

// object: a new one with these words.
func object(t *testing.T, h *heap.Heap, class api.Word, kind int, words ...api.Word) api.Word {
	t.Helper()
	w, e := h.Alloc(class, kind, len(words), 1)
	if e != api.OK {
		t.Fatalf("heap.Alloc: %d", e)
	}
	for i, x := range words {
		h.Put(w, i, x)
	}
	return w
}

// raw: a new one with these words as its bytes.
func raw(t *testing.T, h *heap.Heap, class api.Word, words ...uint64) api.Word {
	t.Helper()
	bytes := pack.Words(words...)
	w, e := h.Alloc(class, head.Raw, len(bytes), 0)
	if e != api.OK {
		t.Fatalf("heap.Alloc: %d", e)
	}
	for i, b := range bytes {
		h.PutByte(w, i, b)
	}
	return w
}

// loaded: a heap of words, which must be taken. All that is free in it is 0.
func loaded(t *testing.T, cells int, last uint32, words ...api.Word) *heap.Heap {
	t.Helper()
	h, e := heap.Load(cells, last, words...)
	if e != api.OK {
		t.Fatalf("heap.Load(%d, %d, %x): %d", cells, last, words, e)
	}
	return h
}

// checkCollect: does Collect leave just these words, and answer these roots; and does Live tell how many? Collected again, nothing changes.
func checkCollect(t *testing.T, h *heap.Heap, roots, wantRoots []api.Word, words ...api.Word) {
	t.Helper()
	before := h.Clone()
	want := loaded(t, h.Cells(), h.Last(), words...)
	if n, e := Live(h, roots...); n != want.Used() || e != api.OK || !h.Same(before) {
		t.Errorf("P6.3: Live of %x = %d, %d; want %d", roots, n, e, want.Used())
	}
	got, e := Collect(h, roots...)
	if e != api.OK || !slices.Equal(got, wantRoots) {
		t.Errorf("P6.1: Collect of %x = %x, %d; want %x", roots, got, e, wantRoots)
	}
	if !h.Same(want) || !want.Same(h) {
		t.Errorf("P6.1: Collect of %x: words %x; want %x", roots, h.Words(), words)
	}
	if again, e := Collect(h, got...); e != api.OK || !slices.Equal(again, wantRoots) || !h.Same(want) {
		t.Errorf("P6.2: Collect twice: %x, %d, %x; want %x", again, e, h.Words(), words)
	}
}

// checkLoose: is it told, by all calls, that the roots lead to what is loose, and has nothing changed?
func checkLoose(t *testing.T, h *heap.Heap, roots ...api.Word) {
	t.Helper()
	before := h.Clone()
	if got, e := Collect(h, roots...); len(got) != 0 || e != api.ErrKind || !h.Same(before) {
		t.Errorf("P6.1: Collect of %x = %x, %d", roots, got, e)
	}
	for _, cells := range []int{h.Free() + 1, math.MaxInt} {
		if got, e := Room(h, cells, roots...); len(got) != 0 || e != api.ErrKind || !h.Same(before) {
			t.Errorf("P6.3: Room of %d cells, of %x = %x, %d", cells, roots, got, e)
		}
	}
	if n, e := Live(h, roots...); n != 0 || e != api.ErrKind || !h.Same(before) {
		t.Errorf("P6.3: Live of %x = %d, %d", roots, n, e)
	}
}

// P6.1

func TestExample(t *testing.T) {
	h := fresh(t, 20)
	a := object(t, h, 4, head.Slots, 16)
	object(t, h, 4, head.Slots, 4)
	c := object(t, h, 4, head.Slots, 16)
	checkCollect(t, h, []api.Word{a, c}, []api.Word{4, 10}, 4, 1<<32+1, 10, 4, 1<<32+1, 10)
	if h.Used() != 8 {
		t.Errorf("P6.1: Used = %d", h.Used())
	}
}

// leadless: words that lead nowhere, though some look like pointers that were turned into numbers.
func leadless() []api.Word {
	return []api.Word{0, 1, 3, 5, 9, 11, 1<<25 - 1, 1<<25 + 1, 1<<63 + 1, math.MaxUint64}
}

func TestNothing(t *testing.T) {
	for _, cells := range []int{16, 17, 100, api.MaxHeap} {
		for _, roots := range [][]api.Word{nil, {}, leadless()} {
			h := fresh(t, cells)
			checkCollect(t, h, roots, roots)
			object(t, h, 4, head.Slots, 4, 99<<1) // what is loose in what goes isn't told
			raw(t, h, 50, 4)
			checkCollect(t, h, roots, roots)
			if h.First() != 0 || h.Free() != cells-2 {
				t.Errorf("P6.1: First %x, Free %d", h.First(), h.Free())
			}
		}
	}
}

// A nil heap is what stands beside an error: nothing is in it.
func TestNilHeap(t *testing.T) {
	for _, h := range []*heap.Heap{nil, {}} {
		if got, e := Collect(h, leadless()...); e != api.OK || !slices.Equal(got, leadless()) {
			t.Errorf("P6.1: Collect = %x, %d", got, e)
		}
		if got, e := Room(h, 0, 5); e != api.OK || !slices.Equal(got, []api.Word{5}) {
			t.Errorf("P6.3: Room = %x, %d", got, e)
		}
		if got, e := Room(h, 1, 5); e != api.ErrFull || !slices.Equal(got, []api.Word{5}) {
			t.Errorf("P6.3: Room = %x, %d", got, e)
		}
		checkLoose(t, h, 4)
		if h.Cells() != 0 || h.Used() != 0 {
			t.Errorf("P6.1: a nil heap has something")
		}
	}
}

// Heads stay as they are, but for the classes; so do numbers, noughts, and the bytes of Raw objects, also such as look like pointers.
func TestWhatStays(t *testing.T) {
	h := fresh(t, 60)
	object(t, h, 4, head.Slots, 1, 1) // at 4: goes
	c := object(t, h, 12, head.Fields)
	object(t, h, c, head.Raw) // at 16: goes
	a := object(t, h, c, head.Fields, 0, 12, 13, 1<<63+1)
	b := raw(t, h, c, uint64(a), uint64(c), 0, 6, 1<<63)
	object(t, h, b, head.Slots, b) // at 46: goes
	d := object(t, h, b, head.Slots, a, next(h), b, c)
	h.Tag(46)
	h.Tag(b)
	h.Tag(d)
	h.Tag(a)
	h.SetMark(b, true)
	h.SetMark(d, true)
	h.Put(a, 1, d)
	checkCollect(t, h, []api.Word{0, d, 7, d, 13}, []api.Word{0, 34, 7, 34, 13},
		4, 0, // c, at 4
		4, 4<<40+4, 0, 34, 13, 1<<63+1, // a, at 8
		4, 2<<40+1<<36+2<<32+40, 20, 12, 0, 6, 1<<63, // b, at 20: its bytes are those of pointers as they were
		20, 3<<40+1<<36+1<<32+4, 8, 34, 20, 4, // d, at 34
	)
}

// next: the pointer that the next object will have.
func next(h *heap.Heap) api.Word { return api.Word(2 * h.Used()) }

func TestClassAlone(t *testing.T) {
	h := fresh(t, 60)
	object(t, h, 4, head.Slots, 1, 1)
	top := object(t, h, 12, head.Fields) // its own class
	object(t, h, top, head.Fields)
	middle := object(t, h, top, head.Fields, 3)
	object(t, h, middle, head.Fields)
	low := object(t, h, middle, head.Raw)
	checkCollect(t, h, []api.Word{low}, []api.Word{14}, 4, 0, 4, 1, 3, 8, 2<<32)
}

func TestRing(t *testing.T) {
	h := fresh(t, 60)
	object(t, h, 4, head.Slots, 1, 1)
	a := object(t, h, 12, head.Slots, 32)
	object(t, h, 18, head.Slots, a, 26)
	object(t, h, 18, head.Slots, 18) // with the one ahead of it a ring of its own, which goes
	b := object(t, h, a, head.Slots, a)
	checkCollect(t, h, []api.Word{b, a, b}, []api.Word{10, 4, 10}, 4, 1<<32+1, 10, 4, 1<<32+1, 4)
}

// Where all, or the first ones, or the last ones stay, and memory that is full.
func TestFull(t *testing.T) {
	words := []api.Word{4, 1<<40 + 1<<32 + 1, 10, 4, 2<<32 + 16, 5, 6, 4, 3<<40 + 2, 1, 0, 4, 0, 4, 2<<40 + 1<<36}
	whole := func() *heap.Heap { return loaded(t, 17, 9, words...) }
	if whole().Free() != 0 {
		t.Fatalf("P6.1: %d cells are free", whole().Free())
	}
	checkCollect(t, whole(), []api.Word{18, 4, 26, 30}, []api.Word{18, 4, 26, 30}, words...)
	checkCollect(t, whole(), []api.Word{4}, []api.Word{4}, words[:7]...)
	checkCollect(t, whole(), []api.Word{30}, []api.Word{18}, append(slices.Clone(words[:7]), words[13:]...)...)
	h := whole()
	for _, x := range []api.Word{26, 18} {
		h.SetClass(x, x)
	}
	checkCollect(t, h, []api.Word{26, 18}, []api.Word{12, 4}, 4, 3<<40+2, 1, 0, 12, 0)
	// What is free then is taken again, to the last cell, and hashes go on behind the last one.
	w := raw(t, h, 4, 0, 0, 0, 0, 0)
	if b, _ := h.Bytes(w); w != 16 || len(b) != 40 || slices.Max(b) != 0 {
		t.Errorf("P6.1: a Raw object at %x, in cells that weren't 0: %x", w, b)
	}
	if n, e := h.Tag(w); n != 10 || e != api.OK {
		t.Errorf("P6.1: Tag = %d, %d", n, e)
	}
	if _, e := h.Alloc(4, head.Slots, 1, 1); e != api.ErrFull || h.Free() != 2 {
		t.Errorf("P6.1: Alloc: %d, Free %d", e, h.Free())
	}
}

// looseWords: in the middle of an object at 2 or 6, in a head, ahead of all, free, behind memory, and what layer 3 takes for no pointer.
func looseWords(h *heap.Heap) []api.Word {
	return []api.Word{2, 6, 8, 10, 14, 16, next(h), next(h) + 4, api.Word(2*h.Cells() - 2), api.Word(2 * h.Cells()), 1<<25 - 2, 1 << 25, 1<<25 + 4, 1<<32 + 4, 1 << 63, 1<<63 + 4, math.MaxUint64 - 1}
}

func TestLoose(t *testing.T) {
	for _, cells := range []int{18, 19, 100} {
		h := fresh(t, cells)
		a := object(t, h, 4, head.Slots, 1, 0)
		b := raw(t, h, a, 2)
		object(t, h, a, head.Slots) // goes, or would
		c := object(t, h, a, head.Slots, b)
		for _, w := range looseWords(h) {
			checkLoose(t, h, w)
			checkLoose(t, h, a, w, b)
			h.Put(a, 1, w) // by a word: the last one
			checkLoose(t, h, c)
			checkLoose(t, h, 0, b, 1)
			h.Put(a, 1, 0)
			h.SetClass(b, w) // by a class, of a Raw one
			checkLoose(t, h, c)
			h.SetClass(b, a)
		}
		checkCollect(t, h, []api.Word{c}, []api.Word{18}, 4, 1<<32+2, 1, 0, 4, 2<<32+8, 2, 4, 1<<32+1, 12)
	}
}

// A chain through all of the greatest memory, of which every second object goes.
func TestDeep(t *testing.T) {
	h := fresh(t, api.MaxHeap)
	c := object(t, h, 4, head.Fields)
	w, count := c, 0
	for h.Free() >= 5 {
		h.Alloc(c, head.Slots, 0, 1)
		w, _ = h.Alloc(c, head.Slots, 1, w)
		count++
	}
	if n, e := Live(h, w); n != 4+3*count || e != api.OK {
		t.Errorf("P6.3: Live = %d, %d; want %d", n, e, 4+3*count)
	}
	roots, e := Room(h, api.MaxHeap-4-3*count, w)
	if e != api.OK || !slices.Equal(roots, []api.Word{api.Word(2 * (4 + 3*(count-1)))}) || h.Used() != 4+3*count {
		t.Fatalf("P6.3: Room = %x, %d, Used %d", roots, e, h.Used())
	}
	at := api.Word(4)
	for x := h.First(); x != roots[0]; x = h.After(x) {
		y := h.After(x)
		if got, e := h.Get(y, 0); got != at || e != api.OK || y == 0 {
			t.Fatalf("P6.1: the word of %x = %x, %d; want %x", y, got, e, at)
		}
		at = y
	}
}

// The roots are neither changed nor kept, and answers are new.
func TestMemory(t *testing.T) {
	h := fresh(t, 40)
	object(t, h, 4, head.Fields)
	a := object(t, h, 8, head.Slots, 8)
	roots := make([]api.Word, 3, 20)
	copy(roots, []api.Word{a, 7, a})
	spare := slices.Clone(roots[:cap(roots)])
	kept := h.Clone()
	untouched, _ := Room(h, 3, roots...)
	moved, _ := Collect(h, roots...)
	if !slices.Equal(roots[:cap(roots)], spare) {
		t.Errorf("P6.1: the roots have changed: %x", roots[:cap(roots)])
	}
	for _, list := range [][]api.Word{untouched, moved} {
		list[0] = 99
		_ = append(list, 99)
	}
	if !slices.Equal(roots[:cap(roots)], spare) || h.Used() != 5 || kept.Used() != 7 || kept.First() != 4 {
		t.Errorf("P6.1: answers share memory: roots %x", roots[:cap(roots)])
	}
	object(t, h, 4, head.Slots, 3)
	if x, _ := kept.Get(8, 0); x != 8 || kept.Used() != 7 {
		t.Errorf("P6.1: a clone from ahead has changed")
	}
}

// P6.3

// room: memory of 20 cells: a (4 cells), one that goes (5), c (3), of which 6 are free.
func room(t *testing.T) (*heap.Heap, api.Word) {
	t.Helper()
	h := fresh(t, 20)
	a := object(t, h, 4, head.Fields, 1, 0)
	object(t, h, 4, head.Slots, 4, 12, 3)
	return h, object(t, h, a, head.Slots, a)
}

func TestRoom(t *testing.T) {
	for cells := range 14 {
		h, c := room(t)
		want, wantRoots, wantError := h.Clone(), []api.Word{c, 5, 4}, api.OK
		if cells > 6 {
			want, wantRoots = loaded(t, 20, 0, 4, 2, 1, 0, 4, 1<<32+1, 4), []api.Word{12, 5, 4}
		}
		if cells > 11 {
			wantError = api.ErrFull
		}
		got, e := Room(h, cells, c, 5, 4)
		if e != wantError || !slices.Equal(got, wantRoots) || !h.Same(want) {
			t.Errorf("P6.3: Room of %d cells = %x, %d; want %x, %d", cells, got, e, wantRoots, wantError)
		}
	}
	for _, cells := range []int{api.MaxHeap, api.MaxHeap + 1, math.MaxInt} {
		h, c := room(t)
		if got, e := Room(h, cells, c); e != api.ErrFull || !slices.Equal(got, []api.Word{12}) || h.Used() != 9 {
			t.Errorf("P6.3: Room of %d cells = %x, %d, Used %d", cells, got, e, h.Used())
		}
	}
}

// Below 0 is told ahead of what is loose, and of cells that are free.
func TestRoomWrong(t *testing.T) {
	for _, cells := range []int{-1, -2, -1 << 32, math.MinInt} {
		for _, roots := range [][]api.Word{nil, {4}, {6}, {4, 1 << 63}} {
			h, _ := room(t)
			before := h.Clone()
			if got, e := Room(h, cells, roots...); len(got) != 0 || e != api.ErrArg || !h.Same(before) {
				t.Errorf("P6.3: Room of %d cells, of %x = %x, %d", cells, roots, got, e)
			}
		}
	}
}

// Where so many cells are free already, nothing happens: nothing is asked of the roots either.
func TestRoomThere(t *testing.T) {
	for _, cells := range []int{0, 1, 6} {
		for _, roots := range [][]api.Word{nil, {4}, {0, 3}, {6}, {18, 1 << 63}} {
			h, _ := room(t)
			before := h.Clone()
			if got, e := Room(h, cells, roots...); e != api.OK || !slices.Equal(got, roots) || !h.Same(before) {
				t.Errorf("P6.3: Room of %d cells, of %x = %x, %d", cells, roots, got, e)
			}
		}
	}
}

func TestRoomWithout(t *testing.T) {
	for cells, want := range map[int]api.Errno{18: api.OK, 19: api.ErrFull} {
		h, _ := room(t)
		if got, e := Room(h, cells); e != want || len(got) != 0 || h.Used() != 2 {
			t.Errorf("P6.3: Room of %d cells = %x, %d, Used %d", cells, got, e, h.Used())
		}
	}
}

func TestLive(t *testing.T) {
	h, c := room(t)
	before := h.Clone()
	for _, x := range []struct {
		roots []api.Word
		want  int
	}{{nil, 2}, {leadless(), 2}, {[]api.Word{4}, 6}, {[]api.Word{c}, 9}, {[]api.Word{12}, 11}, {[]api.Word{c, c, 12, 4}, 14}} {
		if n, e := Live(h, x.roots...); n != x.want || e != api.OK || !h.Same(before) {
			t.Errorf("P6.3: Live of %x = %d, %d; want %d", x.roots, n, e, x.want)
		}
	}
}
