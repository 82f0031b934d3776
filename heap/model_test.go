package heap

import (
	"bytes"
	"math"
	"math/rand"
	"slices"
	"testing"

	"foundling/api"
	"foundling/head"
)

// thing: an object of the plain model.
type thing struct {
	head.Head
	words []api.Word
	bytes []byte
}

// model: memory as a list of things. What it answers is reckoned from that list alone.
type model struct {
	cells  int
	last   uint32
	things []*thing
}

func (m *model) clone() *model {
	out := &model{cells: m.cells, last: m.last}
	for _, x := range m.things {
		y := *x
		y.words, y.bytes = slices.Clone(x.words), slices.Clone(x.bytes)
		out.things = append(out.things, &y)
	}
	return out
}

// wide: how many cells a thing has, its head's too.
func (x *thing) wide() int {
	if x.Kind == head.Raw {
		return 2 + (len(x.bytes)+7)/8
	}
	return 2 + len(x.words)
}

// pointers: of all things, and behind them that of the first free cell.
func (m *model) pointers() []api.Word {
	at := 2
	out := []api.Word{4}
	for _, x := range m.things {
		at += x.wide()
		out = append(out, api.Word(2*at))
	}
	return out
}

func (m *model) used() int { return int(m.pointers()[len(m.things)]) / 2 }

// find: the thing to which w points.
func (m *model) find(w api.Word) *thing {
	for i, p := range m.pointers()[:len(m.things)] {
		if p == w {
			return m.things[i]
		}
	}
	return nil
}

func (m *model) words() []api.Word {
	var out []api.Word
	for _, x := range m.things {
		second := api.Word(x.Size) + api.Word(x.Kind)<<32 + api.Word(x.Hash)<<40
		if x.Mark {
			second += 1 << 36
		}
		out = append(out, x.Class, second)
		out = append(out, x.words...)
		for i, b := range x.bytes {
			if i%8 == 0 {
				out = append(out, 0)
			}
			out[len(out)-1] += api.Word(b) << (i % 8 * 8)
		}
	}
	return out
}

func (m *model) alloc(class api.Word, kind, size int, fill api.Word) (api.Word, api.Errno) {
	switch {
	case class%2 == 1 || class == 0:
		return 0, api.ErrArg
	case size < 0 || size > api.MaxObject:
		return 0, api.ErrSize
	case kind < 0 || kind > 2:
		return 0, api.ErrKind
	}
	x := &thing{Head: head.Head{Class: class, Kind: kind, Size: size}}
	if kind == head.Raw {
		x.bytes = make([]byte, size)
	} else {
		x.words = slices.Repeat([]api.Word{fill}, size)
	}
	used := m.used()
	if used+x.wide() > m.cells {
		return 0, api.ErrFull
	}
	m.things = append(m.things, x)
	return api.Word(2 * used), api.OK
}

func (m *model) get(w api.Word, i int) (*api.Word, api.Errno) {
	x := m.find(w)
	if x == nil || x.Kind == head.Raw {
		return nil, api.ErrKind
	}
	if i < 0 || i >= len(x.words) {
		return nil, api.ErrNone
	}
	return &x.words[i], api.OK
}

func (m *model) byte(w api.Word, i int) (*byte, api.Errno) {
	x := m.find(w)
	if x == nil || x.Kind != head.Raw {
		return nil, api.ErrKind
	}
	if i < 0 || i >= len(x.bytes) {
		return nil, api.ErrNone
	}
	return &x.bytes[i], api.OK
}

func (m *model) tag(w api.Word) (uint32, api.Errno) {
	x := m.find(w)
	if x == nil {
		return 0, api.ErrKind
	}
	if x.Hash == 0 {
		if m.last == 1<<24-1 {
			return 0, api.ErrOver
		}
		m.last++
		x.Hash = m.last
	}
	return x.Hash, api.OK
}

func (m *model) swap(a, b api.Word) api.Errno {
	if m.find(a) == nil || m.find(b) == nil {
		return api.ErrKind
	}
	other := map[api.Word]api.Word{a: b, b: a}
	for _, x := range m.things {
		if o, ok := other[x.Class]; ok {
			x.Class = o
		}
		for i, w := range x.words {
			if o, ok := other[w]; ok {
				x.words[i] = o
			}
		}
	}
	return api.OK
}

// strange: words that are no object's pointer, whatever the memory has (but for those that are below its end, these are no pointers at all).
func strange() []api.Word {
	return []api.Word{0, 1, 2, 3, 5, 7, 1<<25 - 2, 1<<25 - 1, 1 << 25, 1<<25 + 4, 1<<32 + 4, 1 << 63, 1<<63 + 4, math.MaxUint64 - 1, math.MaxUint64}
}

// check: does the heap answer all that it can be asked as the model does?
func check(t *testing.T, h *Heap, m *model) {
	t.Helper()
	if h.Cells() != m.cells || h.Used() != m.used() || h.Free() != m.cells-m.used() || h.Last() != m.last {
		t.Errorf("P4.1: Cells %d, Used %d, Free %d, Last %d; want %d, %d, %d", h.Cells(), h.Used(), h.Free(), h.Last(), m.cells, m.used(), m.last)
	}
	if got, want := h.Words(), m.words(); !slices.Equal(got, want) {
		t.Errorf("P4.4: Words %x, want %x", got, want)
	}
	checkOrder(t, h, m)
	asked := strange()
	for w := range 2*min(m.cells, 100) + 6 {
		asked = append(asked, api.Word(w))
	}
	for _, w := range append(asked, m.pointers()...) {
		checkObject(t, h, m, w)
	}
}

// checkOrder: First and After.
func checkOrder(t *testing.T, h *Heap, m *model) {
	t.Helper()
	w := h.First()
	for _, p := range m.pointers()[:len(m.things)] {
		if w != p {
			t.Errorf("P4.2: object at %x, want %x", w, p)
			return
		}
		w = h.After(w)
	}
	if w != 0 {
		t.Errorf("P4.2: an object at %x, behind the last one", w)
	}
}

// checkObject: what is answered of one word, whether there is an object or not.
func checkObject(t *testing.T, h *Heap, m *model, w api.Word) {
	t.Helper()
	x := m.find(w)
	d, e := h.Head(w)
	if x == nil {
		if h.Has(w) || e != api.ErrKind || d != (head.Head{}) || h.After(w) != 0 {
			t.Errorf("P4.1: Has(%x) %v, Head %+v, %d, After %x", w, h.Has(w), d, e, h.After(w))
		}
	} else if !h.Has(w) || e != api.OK || d != x.Head {
		t.Errorf("P4.1: Has(%x) %v, Head %+v, %d; want %+v", w, h.Has(w), d, e, x.Head)
	}
	places := []int{math.MinInt, -8, -2, -1, 0, 1, 9, api.MaxObject, 1 << 32, math.MaxInt}
	if x != nil {
		for i := range min(x.Size, 100) + 2 {
			places = append(places, i)
		}
		places = append(places, x.Size-1, x.Size, x.Size+1)
	}
	for _, i := range places {
		checkPart(t, h, m, w, i)
	}
	b, e := h.Bytes(w)
	if x == nil || x.Kind != head.Raw {
		if len(b) != 0 || e != api.ErrKind {
			t.Errorf("P4.1: Bytes(%x) = %x, %d", w, b, e)
		}
	} else if !bytes.Equal(b, x.bytes) || e != api.OK {
		t.Errorf("P4.1: Bytes(%x) = %x, %d; want %x", w, b, e, x.bytes)
	}
}

func checkPart(t *testing.T, h *Heap, m *model, w api.Word, i int) {
	t.Helper()
	want, wantError := m.get(w, i)
	if got, e := h.Get(w, i); e != wantError || want == nil && got != 0 || want != nil && got != *want {
		t.Errorf("P4.1: Get(%x, %d) = %x, %d; want error %d", w, i, got, e, wantError)
	}
	wantByte, wantError := m.byte(w, i)
	if got, e := h.Byte(w, i); e != wantError || wantByte == nil && got != 0 || wantByte != nil && got != *wantByte {
		t.Errorf("P4.1: Byte(%x, %d) = %x, %d; want error %d", w, i, got, e, wantError)
	}
}

// hand: hands both the heap and the model what chance brings.
type hand struct {
	t      *testing.T
	h      *Heap
	m      *model
	random *rand.Rand
}

// word: most often an object's pointer, or such as looks like one.
func (r hand) word() api.Word {
	all := r.m.pointers()
	switch r.random.Intn(12) {
	case 0:
		return strange()[r.random.Intn(len(strange()))]
	case 1:
		return api.Word(r.random.Intn(2*r.m.cells + 8))
	}
	return all[r.random.Intn(len(all))]
}

func (r hand) place(w api.Word) int {
	size := 3
	if x := r.m.find(w); x != nil {
		size = x.Size
	}
	if r.random.Intn(8) == 0 {
		return []int{math.MinInt, -1, size, size + 1, math.MaxInt}[r.random.Intn(5)]
	}
	return r.random.Intn(size + 1)
}

func (r hand) same(what string, e, want api.Errno, right bool) {
	r.t.Helper()
	if e != want || !right {
		r.t.Errorf("P4.1: %s: error %d, want %d", what, e, want)
	}
}

func (r hand) alloc() {
	class, kind, size, fill := r.word(), r.random.Intn(3), r.random.Intn(5), r.word()
	if kind == head.Raw {
		size = r.random.Intn(30)
	}
	if r.random.Intn(8) == 0 {
		kind = []int{-1, 3, 16, math.MinInt, math.MaxInt}[r.random.Intn(5)]
	}
	if r.random.Intn(8) == 0 {
		size = []int{-1, -8, api.MaxObject, api.MaxObject + 1, 1 << 32, math.MinInt, math.MaxInt}[r.random.Intn(7)]
	}
	w, e := r.h.Alloc(class, kind, size, fill)
	want, wantError := r.m.alloc(class, kind, size, fill)
	r.same("Alloc", e, wantError, w == want)
}

func (r hand) put() {
	w, x := r.word(), r.word()
	i := r.place(w)
	e := r.h.Put(w, i, x)
	cell, want := r.m.get(w, i)
	if cell != nil {
		*cell = x
	}
	r.same("Put", e, want, true)
}

func (r hand) putByte() {
	w, b := r.word(), byte(r.random.Intn(256))
	i := r.place(w)
	e := r.h.PutByte(w, i, b)
	at, want := r.m.byte(w, i)
	if at != nil {
		*at = b
	}
	r.same("PutByte", e, want, true)
}

func (r hand) setClass() {
	w, class := r.word(), r.word()
	e, want := r.h.SetClass(w, class), api.OK
	if x := r.m.find(w); x == nil {
		want = api.ErrKind
	} else if class == 0 || class%2 == 1 {
		want = api.ErrArg
	} else {
		x.Class = class
	}
	r.same("SetClass", e, want, true)
}

func (r hand) setMark() {
	w, on := r.word(), r.random.Intn(2) == 0
	e, want := r.h.SetMark(w, on), api.ErrKind
	if x := r.m.find(w); x != nil {
		x.Mark = on
		want = api.OK
	}
	r.same("SetMark", e, want, true)
}

func (r hand) tag() {
	w := r.word()
	hash, e := r.h.Tag(w)
	want, wantError := r.m.tag(w)
	r.same("Tag", e, wantError, hash == want)
}

func (r hand) swap() {
	a, b := r.word(), r.word()
	e := r.h.Swap(a, b)
	r.same("Swap", e, r.m.swap(a, b), true)
}

// step: one deed.
func (r hand) step() {
	switch r.random.Intn(9) {
	case 0, 1:
		r.alloc()
	case 2, 3:
		r.put()
	case 4:
		r.putByte()
	case 5:
		r.setClass()
	case 6:
		r.setMark()
	case 7:
		r.tag()
	case 8:
		r.swap()
	}
}

// chance: a hand with a new heap of so many cells.
func chance(t *testing.T, seed int64, cells int) hand {
	t.Helper()
	h, e := New(cells)
	if e != api.OK {
		t.Fatalf("P4.1: New(%d): %d", cells, e)
	}
	return hand{t, h, &model{cells: cells}, rand.New(rand.NewSource(seed))}
}
