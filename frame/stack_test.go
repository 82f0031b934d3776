package frame

import (
	"math"
	"math/rand"
	"slices"
	"testing"

	"foundling/api"
	"foundling/boot"
	"foundling/head"
)

// P20.1

func TestExample(t *testing.T) {
	w := newWorld(t)
	f := w.open(w.context(w.method("foo:bar:"), w.instance(), w.nothing()))
	f.Push(num(3))
	f.Push(num(5))
	if x, e := f.Peek(1); x != num(3) || e != api.OK {
		t.Errorf("P20.1: Peek(1) = %x, %d", x, e)
	}
	if x, e := f.Pop(); x != num(5) || e != api.OK || f.Depth() != 1 {
		t.Errorf("P20.1: Pop = %x, %d; Depth %d", x, e, f.Depth())
	}
}

// model: a context's words, and which of them are its stack.
type model struct {
	*world
	context api.Word
	words   []api.Word
	first   int // the word that its stack begins with
	stack   []api.Word
}

func (w *world) model(p api.Word, first int) *model {
	return &model{world: w, context: p, words: w.list(p), first: first}
}

// check: is the context so, and what it is asked?
func (m *model) check(what string) {
	m.t.Helper()
	want := slices.Clone(m.words)
	want[boot.Top] = num(int64(len(m.stack)))
	for i := range want[m.first:] {
		want[m.first+i] = num(0)
		if i < len(m.stack) {
			want[m.first+i] = m.stack[i]
		}
	}
	if got := m.list(m.context); !slices.Equal(got, want) {
		m.t.Fatalf("P20.1: behind %s the context is %x, want %x", what, got, want)
	}
	f := m.open(m.context)
	if f.Depth() != len(m.stack) {
		m.t.Fatalf("P20.1: behind %s the Depth is %d, want %d", what, f.Depth(), len(m.stack))
	}
	for n := range len(m.stack) {
		if x, e := f.Peek(n); x != m.stack[len(m.stack)-1-n] || e != api.OK {
			m.t.Fatalf("P20.1: behind %s Peek(%d) = %x, %d; the stack is %x", what, n, x, e, m.stack)
		}
	}
}

// none: what a call answers that there are too few words for; nothing changes.
func (m *model) none(f *Frame) {
	m.t.Helper()
	before := m.h.Clone()
	d := len(m.stack)
	for _, n := range []int{d, d + 1, d + 100, math.MaxInt, -1, -2, math.MinInt} {
		if x, e := f.Peek(n); x != 0 || e != api.ErrNone {
			m.t.Errorf("P20.1: Peek(%d) of %d: %x, %d", n, d, x, e)
		}
	}
	for _, n := range []int{d + 1, d + 2, d + 100, math.MaxInt} {
		if e := f.Drop(n); e != api.ErrNone {
			m.t.Errorf("P20.1: Drop(%d) of %d: %d", n, d, e)
		}
	}
	for _, n := range []int{-1, -2, -d, -d - 1, math.MinInt} {
		if e := f.Drop(n); n != 0 && e != api.ErrArg {
			m.t.Errorf("P20.1: Drop(%d) of %d: %d", n, d, e)
		}
	}
	if d == 0 {
		if x, e := f.Pop(); x != 0 || e != api.ErrNone {
			m.t.Errorf("P20.1: Pop of nothing: %x, %d", x, e)
		}
	}
	if d == len(m.words)-m.first {
		if e := f.Push(m.root); e != api.ErrFull {
			m.t.Errorf("P20.1: Push with no place: %d", e)
		}
	}
	m.same("what there is too little for", before)
}

func (m *model) push(f *Frame, x api.Word) {
	m.t.Helper()
	if e := f.Push(x); e != api.OK {
		m.t.Fatalf("P20.1: Push: %d", e)
	}
	m.stack = append(m.stack, x)
}

// take: the last n words go.
func (m *model) take(n int) { m.stack = m.stack[:len(m.stack)-n] }

// stacks: contexts with stacks of all kinds, and where these begin.
func (w *world) stacks() map[api.Word]int {
	out := map[api.Word]int{}
	for _, name := range []string{"none", "foo:bar:", "deep:", "wide"} {
		slots, _ := sizes(w.word(w.method(name), 0))
		p := w.context(w.method(name), w.instance(), w.nothing())
		out[p] = 6 + slots
		for _, places := range []int{1, 2, 9} {
			out[w.inner(p, p, places)] = 6
		}
	}
	for _, slots := range []int{0, 1, 60, 63} {
		for _, stack := range []int{0, 1, 200, 255} {
			if slots+stack > 0 {
				out[w.context(w.like(slots, stack, nil), 1, w.nothing())] = 6 + slots
			}
		}
	}
	return out
}

// All places filled, and one more; and emptied, in each way.
func TestStackFull(t *testing.T) {
	w := newWorld(t)
	stacks := w.stacks()
	start := w.h.Clone()
	for p, first := range stacks {
		for _, n := range []int{1, 2, 3, 7} {
			w.h = start.Clone()
			m := w.model(p, first)
			f := w.open(p)
			m.check("Open")
			m.none(f)
			for i := range len(m.words) - first {
				m.push(f, num(int64(100+i)))
			}
			m.check("Push")
			m.none(f)
			for len(m.stack) > 0 {
				count := min(n, len(m.stack))
				if n == 1 {
					want := m.stack[len(m.stack)-1]
					if x, e := f.Pop(); x != want || e != api.OK {
						t.Fatalf("P20.1: Pop = %x, %d; want %x", x, e, want)
					}
				} else if e := f.Drop(count); e != api.OK {
					t.Fatalf("P20.1: Drop(%d): %d", count, e)
				}
				m.take(count)
				m.check("Pop or Drop")
				f.Drop(0)
				m.check("Drop(0)")
			}
			m.none(f)
			w.same("Push and Pop", start)
		}
	}
}

// By chance, by two Frames of one context and others beside.
func TestStackChance(t *testing.T) {
	for seed := range int64(40) {
		w := newWorld(t)
		r := rand.New(rand.NewSource(seed))
		var models []*model
		for p, first := range w.stacks() {
			models = append(models, w.model(p, first))
		}
		slices.SortFunc(models, func(a, b *model) int { return int(a.context) - int(b.context) })
		xs := []api.Word{0, 1, w.root, w.nothing(), num(-1), w.root + 2, math.MaxUint64}
		var frames [2][]*Frame
		for _, m := range models {
			frames[0] = append(frames[0], w.open(m.context))
			frames[1] = append(frames[1], w.open(m.context))
		}
		for range 800 {
			i := r.Intn(len(models))
			m, f := models[i], frames[r.Intn(2)][i]
			switch d := len(m.stack); r.Intn(6) {
			case 0, 1, 2:
				if d < len(m.words)-m.first {
					m.push(f, xs[r.Intn(len(xs))])
				}
			case 3:
				if d > 0 {
					if x, e := f.Pop(); x != m.stack[d-1] || e != api.OK {
						t.Fatalf("P20.1: Pop = %x, %d; want %x", x, e, m.stack[d-1])
					}
					m.take(1)
				}
			case 4:
				n := r.Intn(d + 1)
				if e := f.Drop(n); e != api.OK {
					t.Fatalf("P20.1: Drop(%d): %d", n, e)
				}
				m.take(n)
			default:
				m.none(f)
			}
			m.check("a call")
		}
		for _, m := range models {
			m.check("all calls")
		}
	}
}

// What counts is what memory says: words that others changed, too.
func TestStackElsewhere(t *testing.T) {
	w := newWorld(t)
	outer := w.context(w.method("foo:bar:"), w.instance(), w.nothing())
	slots, stack := sizes(w.word(w.method("foo:bar:"), 0))
	f := w.open(outer)
	for n := range stack + 1 {
		w.h.Put(outer, boot.Top, num(int64(n)))
		if f.Depth() != n {
			t.Errorf("P20.1: Depth = %d, want %d", f.Depth(), n)
		}
		if n > 0 {
			w.h.Put(outer, 6+slots+n-1, num(int64(7*n)))
			if x, e := f.Peek(0); x != num(int64(7*n)) || e != api.OK {
				t.Errorf("P20.1: Peek = %x, %d", x, e)
			}
		}
	}
	// Too many, or fewer than none, are no count of its words.
	for _, n := range []int64{int64(stack + 1), int64(stack + slots), 1000, 1 << 40, api.MaxInt, -1, -int64(slots), -1000, api.MinInt} {
		w.h.Put(outer, boot.Top, num(n))
		before := w.h.Clone()
		for _, e := range []api.Errno{f.Push(7), f.Drop(0), f.Drop(1), f.Drop(1000), second(f.Pop()), second(f.Peek(0)), second(f.Peek(1000))} {
			if e != api.ErrKind {
				t.Errorf("P20.1: with a Top of %d: %d", n, e)
			}
		}
		if f.Depth() != 0 {
			t.Errorf("P20.1: with a Top of %d the Depth is %d", n, f.Depth())
		}
		w.same("calls with a Top that is none", before)
	}
	// Another method, of other slots.
	w.h.Put(outer, boot.Top, num(0))
	for _, slots := range []int{0, 1, 5, 20, 63} {
		f.SetWord(boot.Method, w.like(slots, 3, nil))
		d, _ := w.h.Head(outer)
		want := api.OK
		if 6+slots >= d.Size {
			want = api.ErrFull
		}
		before := w.h.Clone()
		if e := f.Push(num(9)); e != want {
			t.Errorf("P20.1: Push with %d slots: %d, want %d", slots, e, want)
		}
		if want == api.OK {
			w.changes("Push", before, outer, map[int]api.Word{boot.Top: num(1), 6 + slots: num(9)})
			f.Pop()
		} else {
			w.same("Push with no place", before)
			if _, e := f.Pop(); e != api.ErrNone {
				t.Errorf("P20.1: Pop with no place: %d", e)
			}
		}
	}
}

// slotsOf: the slots of a frame, its home's, one by one; what isn't there, too.
func (w *world) slotsOf(p, home api.Word, slots int) {
	w.t.Helper()
	f, g := w.open(p), w.open(p)
	for i := range slots {
		before := w.h.Clone()
		if x, e := f.Temp(i); x != w.word(home, 6+i) || e != api.OK {
			w.t.Errorf("P20.1: Temp(%d) = %x, %d", i, x, e)
		}
		for _, x := range []api.Word{num(int64(i)), w.root, 0, w.nothing(), math.MaxUint64, num(int64(i))} {
			if e := f.SetTemp(i, x); e != api.OK {
				w.t.Errorf("P20.1: SetTemp(%d): %d", i, e)
			}
			w.changes("SetTemp", before, home, map[int]api.Word{6 + i: x})
			if y, e := g.Temp(i); y != x || e != api.OK {
				w.t.Errorf("P20.1: Temp(%d) = %x, %d; want %x", i, y, e, x)
			}
		}
	}
	before := w.h.Clone()
	for _, i := range []int{slots, slots + 1, slots + 6, 1000, math.MaxInt, math.MaxInt - 6, math.MaxInt - 5, -1, -2, -6, math.MinInt} {
		if x, e := f.Temp(i); x != 0 || e != api.ErrNone {
			w.t.Errorf("P20.1: Temp(%d) of %d = %x, %d", i, slots, x, e)
		}
		if e := f.SetTemp(i, w.root); e != api.ErrNone {
			w.t.Errorf("P20.1: SetTemp(%d) of %d: %d", i, slots, e)
		}
	}
	w.same("calls of slots that aren't there", before)
}

func TestTemp(t *testing.T) {
	w := newWorld(t)
	for p, first := range w.stacks() {
		if w.word(p, boot.Home) != w.nothing() {
			continue
		}
		slots := first - 6
		w.slotsOf(p, p, slots)
		d, _ := w.h.Head(p)
		for _, places := range []int{1, 5} {
			inner := w.inner(p, w.root, places)
			w.slotsOf(inner, p, slots)
			for range places { // its own words are its stack's
				w.open(inner).Push(num(4))
			}
			w.slotsOf(inner, p, slots)
			w.slotsOf(w.inner(inner, w.root, places), inner, 0)
		}
		if d.Size > 6+slots {
			w.open(p).Push(w.root)
			w.slotsOf(p, p, slots)
		}
	}
}

// Fewer words than its method asks for slots: no more than there are.
func TestTempShort(t *testing.T) {
	w := newWorld(t)
	for size := 7; size < 12; size++ {
		words := []api.Word{w.nothing(), num(0), num(0), w.like(4, 1, nil), 1, w.nothing()}
		p := w.alloc("Context", head.Slots, append(words, slices.Repeat([]api.Word{num(0)}, size-6)...)...)
		w.slotsOf(p, p, min(4, size-6))
		w.slotsOf(w.inner(p, p, 2), p, min(4, size-6))
	}
}
