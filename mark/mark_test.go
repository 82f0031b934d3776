package mark

import (
	"math"
	"slices"
	"testing"

	"foundling/api"
	"foundling/head"
	"foundling/heap"
	"foundling/pack"
)

// fresh: a new heap.
func fresh(t *testing.T, cells int) *heap.Heap {
	t.Helper()
	h, e := heap.New(cells)
	if e != api.OK {
		t.Fatalf("heap.New(%d): %d", cells, e)
	}
	return h
}

// object: a new one with these words.
func object(t *testing.T, h *heap.Heap, class api.Word, kind int, words ...api.Word) api.Word {
	t.Helper()
	w, e := h.Alloc(class, kind, len(words), 1)
	if e != api.OK {
		t.Fatalf("heap.Alloc: %d", e)
	}
	for i, x := range words {
		h.Put(w, i, x)
	}
	return w
}

// raw: a new one with these words as its bytes.
func raw(t *testing.T, h *heap.Heap, class api.Word, words ...uint64) api.Word {
	t.Helper()
	bytes := pack.Words(words...)
	w, e := h.Alloc(class, head.Raw, len(bytes), 0)
	if e != api.OK {
		t.Fatalf("heap.Alloc: %d", e)
	}
	for i, b := range bytes {
		h.PutByte(w, i, b)
	}
	return w
}

// numbers: of a set, rising.
func numbers(s *pack.Bits) []int {
	var out []int
	for i := s.Next(0); i >= 0; i = s.Next(i + 1) {
		out = append(out, i)
	}
	return out
}

// places: of objects, rising.
func places(objects ...api.Word) []int {
	var out []int
	for _, w := range objects {
		out = append(out, int(w/2))
	}
	slices.Sort(out)
	return out
}

// checkOrder: are the objects that the roots lead to just these, in this order? Reach, and the heap as it was, likewise.
func checkOrder(t *testing.T, h *heap.Heap, roots []api.Word, want ...api.Word) {
	t.Helper()
	before := h.Clone()
	list, e := Order(h, roots...)
	if e != api.OK || !slices.Equal(list, want) {
		t.Errorf("P5.2: Order of %x = %x, %d; want %x", roots, list, e, want)
	}
	cells := 0
	for _, w := range want {
		d, _ := h.Head(w)
		cells += 2 + head.Cells(d)
	}
	set, n, e := Reach(h, roots...)
	if e != api.OK || n != cells || set.Size() != h.Cells() || !slices.Equal(numbers(set), places(want...)) {
		t.Errorf("P5.1: Reach of %x = %v, %d, %d; want %v, %d", roots, numbers(set), n, e, places(want...), cells)
	}
	if !h.Same(before) {
		t.Errorf("P5.4: the heap has changed")
	}
}

// checkLoose: do the roots lead to what is loose?
func checkLoose(t *testing.T, h *heap.Heap, roots ...api.Word) {
	t.Helper()
	before := h.Clone()
	if set, n, e := Reach(h, roots...); set != nil || n != 0 || e != api.ErrKind {
		t.Errorf("P5.1: Reach of %x = %v, %d, %d", roots, set, n, e)
	}
	if list, e := Order(h, roots...); len(list) != 0 || e != api.ErrKind {
		t.Errorf("P5.2: Order of %x = %x, %d", roots, list, e)
	}
	if !h.Same(before) {
		t.Errorf("P5.4: beside an error the heap has changed")
	}
}

func checkSteps(t *testing.T, h *heap.Heap, from, to api.Word, want int, wantError api.Errno) {
	t.Helper()
	before := h.Clone()
	if n, e := Steps(h, from, to); n != want || e != wantError {
		t.Errorf("P5.3: Steps from %x to %x = %d, %d; want %d, %d", from, to, n, e, want, wantError)
	}
	if !h.Same(before) {
		t.Errorf("P5.4: Steps has changed the heap")
	}
}

func TestExample(t *testing.T) {
	h := fresh(t, 40)
	c := object(t, h, 4, head.Fields)
	other := object(t, h, c, head.Slots, 1)
	last := object(t, h, c, head.Slots, 1)
	next := object(t, h, c, head.Slots, last)
	first := object(t, h, c, head.Slots, next)
	checkOrder(t, h, []api.Word{first}, first, c, next, last)
	checkOrder(t, h, []api.Word{last}, last, c)
	checkOrder(t, h, []api.Word{other}, other, c)
	for to, want := range map[api.Word]int{first: 0, c: 1, next: 1, last: 2} {
		checkSteps(t, h, first, to, want, api.OK)
	}
	checkSteps(t, h, first, other, 0, api.ErrNone)
}

// leadless: words that lead nowhere, though some look like pointers that were turned into numbers.
func leadless() []api.Word {
	return []api.Word{0, 1, 3, 5, 9, 11, 1<<25 - 1, 1<<25 + 1, 1<<63 + 1, math.MaxUint64}
}

func TestNothing(t *testing.T) {
	for _, cells := range []int{16, 17, 100, api.MaxHeap} {
		h := fresh(t, cells)
		checkOrder(t, h, nil)
		checkOrder(t, h, leadless())
		object(t, h, 4, head.Slots, 4, 99<<1)
		checkOrder(t, h, nil)
		checkOrder(t, h, []api.Word{})
		checkOrder(t, h, leadless())
	}
}

// A nil heap is what stands beside an error: nothing is in it.
func TestNilHeap(t *testing.T) {
	for _, h := range []*heap.Heap{nil, {}} {
		checkOrder(t, h, nil)
		checkOrder(t, h, leadless())
		checkLoose(t, h, 4)
		checkSteps(t, h, 4, 4, 0, api.ErrKind)
	}
}

func TestLeads(t *testing.T) {
	h := fresh(t, 200)
	top := object(t, h, 4, head.Fields) // its own class
	middle := object(t, h, top, head.Fields, 0, 5)
	low := object(t, h, middle, head.Slots)
	checkOrder(t, h, []api.Word{top}, top)
	checkOrder(t, h, []api.Word{low}, low, middle, top)
	self := object(t, h, top, head.Slots, 1, 0)
	h.Put(self, 1, self)
	h.SetClass(self, self)
	checkOrder(t, h, []api.Word{self}, self)
	alone := object(t, h, low, head.Fields, 0, low+1, top+1) // numbers that are next to pointers
	checkOrder(t, h, []api.Word{alone}, alone, low, middle, top)
	empty := raw(t, h, top)
	bytes := raw(t, h, middle, uint64(alone), uint64(low), 6, 1<<63, 1)
	checkOrder(t, h, []api.Word{empty}, empty, top)
	checkOrder(t, h, []api.Word{bytes}, bytes, middle, top)
	h.SetClass(bytes, bytes)
	checkOrder(t, h, []api.Word{bytes}, bytes)
	h.SetMark(bytes, true)
	h.SetMark(low, true)
	checkOrder(t, h, []api.Word{bytes, low}, bytes, low, middle, top)
	checkOrder(t, h, []api.Word{alone}, alone, low, middle, top)
}

func TestRing(t *testing.T) {
	h := fresh(t, 100)
	a := object(t, h, 4, head.Slots, 0)
	b := object(t, h, a, head.Slots, 0)
	c := object(t, h, b, head.Slots, 0)
	d := object(t, h, c, head.Slots, a)
	h.SetClass(a, d)
	checkOrder(t, h, []api.Word{a}, a, d, c, b)
	checkOrder(t, h, []api.Word{b}, b, a, d, c)
	for i, from := range []api.Word{d, c, b, a} {
		checkSteps(t, h, from, from, 0, api.OK)
		checkSteps(t, h, a, from, []int{1, 2, 3, 0}[i], api.OK)
	}
	checkSteps(t, h, d, a, 1, api.OK) // as a word, though by classes it takes three
	checkSteps(t, h, c, a, 2, api.OK)
}

func TestRoots(t *testing.T) {
	h := fresh(t, 100)
	c := object(t, h, 4, head.Fields)
	a, b := object(t, h, c, head.Slots, 7), object(t, h, c, head.Slots, 9)
	both := object(t, h, c, head.Slots, b, 0, a, b)
	checkOrder(t, h, []api.Word{a, a}, a, c)
	checkOrder(t, h, []api.Word{b, a, b, a}, b, a, c)
	checkOrder(t, h, []api.Word{0, b, 1, b + 1, 0, a}, b, a, c)
	checkOrder(t, h, []api.Word{both}, both, c, b, a)
	checkOrder(t, h, []api.Word{a, both}, a, both, c, b)
	checkOrder(t, h, []api.Word{c, both, c}, c, both, b, a)
}

// Of one wave, what the first one leads to comes ahead of what the second one does, and a class ahead of words.
func TestOrderWaves(t *testing.T) {
	h := fresh(t, 200)
	c := object(t, h, 4, head.Fields)
	d := object(t, h, c, head.Fields)
	leaf := make([]api.Word, 5)
	for i := range leaf {
		leaf[i] = object(t, h, d, head.Slots)
	}
	low := object(t, h, c, head.Slots, leaf[4], leaf[2])
	high := object(t, h, d, head.Slots, leaf[3], low, leaf[0])
	top := object(t, h, c, head.Slots, high, leaf[1], low)
	checkOrder(t, h, []api.Word{top}, top, c, high, leaf[1], low, d, leaf[3], leaf[0], leaf[4], leaf[2])
	checkOrder(t, h, []api.Word{low, high}, low, high, c, leaf[4], leaf[2], d, leaf[3], leaf[0])
}

// looseWords: of a heap whose only objects stand at 2 (4 cells) and 6 (3 cells, Raw): in the middle of one, in a head, ahead of all, free, behind memory, and what layer 3 takes for no pointer.
func looseWords(h *heap.Heap) []api.Word {
	return []api.Word{2, 6, 8, 10, 14, 16, api.Word(2 * h.Used()), api.Word(2*h.Used() + 4), api.Word(2*h.Cells() - 2), api.Word(2 * h.Cells()), 1<<25 - 2, 1 << 25, 1<<25 + 4, 1<<32 + 4, 1 << 63, 1<<63 + 4, math.MaxUint64 - 1}
}

func TestLoose(t *testing.T) {
	for _, cells := range []int{16, 17, 100} {
		h := fresh(t, cells)
		a := object(t, h, 4, head.Slots, 1, 0)
		b := raw(t, h, a, 2)
		for _, w := range looseWords(h) {
			checkLoose(t, h, w)
			checkLoose(t, h, a, w)
			checkLoose(t, h, 0, w, a)
			checkSteps(t, h, a, w, 0, api.ErrKind)
			checkSteps(t, h, w, a, 0, api.ErrKind)
			checkSteps(t, h, w, w, 0, api.ErrKind)
			h.Put(a, 1, w) // by a word: the last one
			checkLoose(t, h, a)
			checkLoose(t, h, b)
			checkLoose(t, h, 1, a, a)
			h.Put(a, 1, 0)
			h.SetClass(b, w) // by a class, of a Raw one
			checkLoose(t, h, b)
			checkOrder(t, h, []api.Word{a}, a)
			h.SetClass(b, a)
			h.SetClass(a, w)
			checkLoose(t, h, a)
			h.SetClass(a, a)
		}
		checkOrder(t, h, []api.Word{b}, b, a)
	}
}

// What is loose is told wherever it stands, but only if it is led to.
func TestLooseFar(t *testing.T) {
	h := fresh(t, 100)
	c := object(t, h, 4, head.Fields)
	far := object(t, h, c, head.Slots, 3, 50<<1)
	near := object(t, h, c, head.Slots, far, 0)
	first := object(t, h, c, head.Slots, near, 1)
	apart := object(t, h, c, head.Slots, c)
	checkLoose(t, h, first)
	checkLoose(t, h, apart, far)
	checkOrder(t, h, []api.Word{apart}, apart, c)
	for _, to := range []api.Word{first, near, c, far, apart} { // the loose word stands behind all of them
		checkSteps(t, h, first, to, 0, api.ErrKind)
	}
	checkSteps(t, h, apart, first, 0, api.ErrNone)
	checkSteps(t, h, apart, c, 1, api.OK)
	h.Put(far, 1, first)
	checkOrder(t, h, []api.Word{first}, first, c, near, far)
	checkSteps(t, h, far, near, 2, api.OK)
}

func TestStepsWrong(t *testing.T) {
	h := fresh(t, 16)
	a := object(t, h, 4, head.Slots, 1, 0)
	b := raw(t, h, a, 2)
	for _, w := range leadless() {
		checkSteps(t, h, a, w, 0, api.ErrKind)
		checkSteps(t, h, w, a, 0, api.ErrKind)
		checkSteps(t, h, w, w, 0, api.ErrKind)
	}
	checkSteps(t, h, a, b, 0, api.ErrNone)
	checkSteps(t, h, b, a, 1, api.OK)
	checkSteps(t, h, b, b, 0, api.OK)
}

// A chain through all of the greatest memory, each object with the next one as its only word, or as its class.
func TestDeep(t *testing.T) {
	for _, words := range []int{1, 0} {
		h := fresh(t, api.MaxHeap)
		last := object(t, h, 4, head.Slots, slices.Repeat([]api.Word{1}, words)...)
		w, count, cells := last, 1, 2+words
		for h.Free() >= cells {
			if words == 1 {
				w, _ = h.Alloc(last, head.Slots, 1, w)
			} else {
				w, _ = h.Alloc(w, head.Slots, 0, 1)
			}
			count++
		}
		set, n, e := Reach(h, w)
		if e != api.OK || n != count*cells || set.Below(api.MaxHeap) != count {
			t.Errorf("P5.4: Reach: %d cells, %d; want %d", n, e, count*cells)
		}
		list, e := Order(h, w)
		if e != api.OK || len(list) != count || list[0] != w || list[count-1] != 4+2*api.Word(words*cells) {
			t.Errorf("P5.4: Order: %d of %d objects, %d", len(list), count, e)
		}
		want := count - 1
		if words == 1 {
			want = 1 // by the class
			checkDeepWords(t, h, w, count)
		}
		if n, e := Steps(h, w, last); n != want || e != api.OK {
			t.Errorf("P5.4: Steps = %d, %d; want %d", n, e, want)
		}
	}
}

// checkDeepWords: steps to the one that stands behind the last one of a chain of words, whose class is each one's.
func checkDeepWords(t *testing.T, h *heap.Heap, w api.Word, count int) {
	t.Helper()
	if n, e := Steps(h, w, h.After(h.First())); n != count-2 || e != api.OK {
		t.Errorf("P5.4: Steps = %d, %d; want %d", n, e, count-2)
	}
}

// Memory is full to its last cell, by objects of each kind.
func TestFull(t *testing.T) {
	for _, kind := range []int{head.Fields, head.Slots} {
		h := fresh(t, 16)
		a := object(t, h, 4, kind, 1, 0, 0)
		b := raw(t, h, a, 4, 4, 4)
		c := object(t, h, b, kind, 1, a)
		if h.Free() != 0 {
			t.Fatalf("P5.1: %d cells are free", h.Free())
		}
		checkOrder(t, h, []api.Word{c}, c, b, a)
		checkOrder(t, h, []api.Word{a}, a)
		h.Put(a, 2, c)
		checkOrder(t, h, []api.Word{a}, a, c, b)
		h.Put(c, 1, 16<<1) // where memory ends
		checkLoose(t, h, a)
	}
}

// The roots are neither changed nor kept, and answers are new.
func TestMemory(t *testing.T) {
	h := fresh(t, 40)
	c := object(t, h, 4, head.Fields)
	a := object(t, h, c, head.Slots, c)
	roots := make([]api.Word, 3, 20)
	copy(roots, []api.Word{a, 7, a})
	spare := slices.Clone(roots[:cap(roots)])
	one, _ := Order(h, roots...)
	other, _ := Order(h, roots...)
	set, _, _ := Reach(h, roots...)
	again, _, _ := Reach(h, roots...)
	if !slices.Equal(roots[:cap(roots)], spare) {
		t.Errorf("P5.4: the roots have changed: %x", roots[:cap(roots)])
	}
	one[0] = 99
	_ = append(one, 99)
	set.Set(2, false)
	if !slices.Equal(other, []api.Word{a, c}) || !slices.Equal(numbers(again), places(a, c)) || !slices.Equal(roots, []api.Word{a, 7, a}) {
		t.Errorf("P5.4: answers share memory")
	}
	checkOrder(t, h, roots, a, c)
}
