package intern

import (
	"math"
	"math/rand"
	"reflect"
	"slices"
	"testing"

	"foundling/api"
	"foundling/heap"
	"foundling/scope"
	"foundling/sound"
)

// maker: of texts and literals by chance.
type maker struct{ *rand.Rand }

func (m maker) text() string {
	b := make([]byte, m.Intn(4))
	for i := range b {
		b[i] = []byte{0, 'A', 'a', 'b', 255}[m.Intn(5)]
	}
	if m.Intn(6) == 0 {
		return []string{"Object", "Ape", "Zebra", "Apes", "Ap", "Array"}[m.Intn(6)]
	}
	return string(b)
}

// literal: that may be; now and then, if it spoils, one that may not.
func (m maker) literal(deep int, spoils bool) scope.Item {
	if spoils && m.Intn(12) == 0 {
		return []scope.Item{number(math.MaxInt64), text(bytes(api.MaxText + 1)), symbol(bytes(api.MaxText + 1)), global("Nobody"), bare(scope.Self), bare(scope.Hole), {}}[m.Intn(7)]
	}
	kind := m.Intn(10)
	switch {
	case kind < 3 && deep > 0:
		x := list()
		for range m.Intn(5) {
			x.Kids = append(x.Kids, m.literal(deep-1, spoils))
		}
		return x
	case kind < 5:
		return text(m.text())
	case kind < 7:
		return symbol(m.text())
	case kind == 7:
		return number([]int64{0, 1, -1, api.MaxInt, api.MinInt, m.Int63n(1000)}[m.Intn(6)])
	case kind == 8:
		return global([]string{"Object", "Ape", "Apes", "Message", "Zebra"}[m.Intn(5)])
	}
	return bare([]int{scope.Nil, scope.True, scope.False}[m.Intn(3)])
}

// first: the error of a literal, if there is room.
func first(x scope.Item) api.Errno {
	switch {
	case x.Kind == scope.Int && (x.Num > api.MaxInt || x.Num < api.MinInt):
		return api.ErrOver
	case (x.Kind == scope.Text || x.Kind == scope.Symbol) && len(x.Name) > api.MaxText:
		return api.ErrSize
	case x.Kind == scope.Global && kinds[x.Name] == 0 && x.Name != "Object":
		return api.ErrNone
	case x.Kind < scope.Int || x.Kind > scope.Global || x.Kind == scope.Self:
		return api.ErrKind
	}
	for _, kid := range x.Kids {
		if e := first(kid); e != api.OK {
			return e
		}
	}
	return api.OK
}

// One behind the other.
func TestChance(t *testing.T) {
	count := [2]int{}
	for seed := range int64(60) {
		m := maker{rand.New(rand.NewSource(seed))}
		w := newWorld(t, m.text(), m.text())
		for range 20 {
			switch m.Intn(3) {
			case 0:
				text := m.text()
				w.find(text)
				w.intern(text)
			case 1:
				w.find(m.text())
			default:
				x := m.literal(4, true)
				if e := first(x); e != api.OK {
					count[1]++
					w.unmade(x, e, 10000)
					w.learn()
					continue
				}
				count[0]++
				w.both(x)
			}
			if t.Failed() {
				t.FailNow()
			}
		}
	}
	if min(count[0], count[1]) < 50 {
		t.Errorf("the test tries too little: %v", count)
	}
}

// learn: which symbols there are.
func (w *world) learn() {
	list := w.special(sound.Symbols)
	d, _ := w.h.Head(list)
	for i := range d.Size {
		x, _ := w.h.Get(list, i)
		w.symbols[w.text(x)] = x
	}
}

// Alike is alike: the same memory, the same answers, which share nothing.
func TestAgain(t *testing.T) {
	m := maker{rand.New(rand.NewSource(1))}
	for range 100 {
		w := newWorld(t, "a", "b")
		again := w.h.Clone()
		x := m.literal(4, false)
		p, e := Make(w.h, w.root, x)
		q, f := Make(again, w.root, x)
		if p != q || e != f || !again.Same(w.h) {
			t.Fatalf("P17.3: Make(%v) = %x, %d, then %x, %d", x, p, e, q, f)
		}
		one, _ := Read(w.h, w.root, p)
		two, _ := Read(w.h, w.root, p)
		spoil(one)
		if !reflect.DeepEqual(two, x) {
			t.Fatalf("P17.3: what Read answers shares memory: %v, %v", two, x)
		}
	}
}

// spoil: all Kids, with their spare room.
func spoil(x scope.Item) {
	for _, kid := range x.Kids {
		spoil(kid)
	}
	clear(x.Kids[:cap(x.Kids)])
}

// What is handed in isn't changed, its spare room neither.
func TestKept(t *testing.T) {
	w := newWorld(t)
	kids := []scope.Item{text("a"), symbol("b"), list(symbol("c"), number(5)), global("Ape"), number(7)}
	kept := slices.Clone(kids)
	p, e := Make(w.h, w.root, list(kids[:3]...))
	if e != api.OK || !reflect.DeepEqual(kids, kept) {
		t.Errorf("P17.3: Make has changed what it was handed: %v", kids)
	}
	clear(kids)
	w.read(p, list(kept[:3]...))
}

// tried: does each call end, and is what it answers as a word 0 or an object (of a number, that)?
func tried(t *testing.T, h *heap.Heap, root, w api.Word) {
	t.Helper()
	right := func(what string, p api.Word, isThere bool) {
		if p != 0 && !h.Has(p) || !isThere && p != 0 {
			t.Fatalf("P17.2: %s in any memory: %x", what, p)
		}
	}
	for _, s := range []string{"", "foo", "Ape", "Object", "zz", "doesNotUnderstand:"} {
		p, ok := Find(h, root, s)
		right("Find", p, ok)
		p, ok = Global(h, root, s)
		right("Global", p, ok)
		Need(h, root, s)
		for _, x := range []scope.Item{text(s), symbol(s), global(s), bare(scope.Nil), bare(scope.True), bare(scope.False), list(), list(symbol(s), text(s), bare(scope.Nil))} {
			p, e := Make(h, root, x)
			right("Make", p, e == api.OK)
		}
		p, e := Intern(h, root, s)
		right("Intern", p, e == api.OK)
	}
	if x, e := Read(h, root, w); e != api.OK && !reflect.DeepEqual(x, scope.Item{}) {
		t.Fatalf("P17.3: Read in any memory: %v, %d", x, e)
	}
	if p, e := Make(h, root, list(number(3))); e == api.OK && !h.Has(p) || e != api.OK && p != 0 {
		t.Fatalf("P17.3: Make in any memory: %x, %d", p, e)
	}
}

// Memory that is empty, or none.
func TestNoMemory(t *testing.T) {
	empty, _ := heap.New(16)
	full, _ := heap.New(100)
	full.Alloc(4, 1, 30, 4)
	full.Alloc(4, 2, 100, 4)
	full.Alloc(2, 0, 3, 66)
	for _, h := range []*heap.Heap{nil, {}, empty, full} {
		for _, root := range []api.Word{0, 1, 2, 3, 4, 5, 6, 66, 68, 70, 72, 96, 98, 1 << 30, 1 << 63, math.MaxUint64} {
			tried(t, h, root, root)
			tried(t, h, root, 4)
		}
	}
}

// Sound memory, cut behind each object, and changed word by word.
func TestAnyMemory(t *testing.T) {
	w := newWorld(t, "foo", "")
	w.make(list(text("a"), number(3), global("Ape"), list(symbol("foo"))))
	last := w.make(list(list(text("a")), bare(scope.Nil)))
	w.left(300)
	words := w.h.Words()
	roots := []api.Word{w.root, w.special(sound.Symbols), w.special(sound.Globals), w.classes["Ape"], last, 0, 1}
	for cut := range len(words) {
		if h, e := heap.Load(w.h.Used()+100, 0, words[:cut]...); e == api.OK {
			tried(t, h, w.root, last)
		}
	}
	m := rand.New(rand.NewSource(3))
	loaded := 0
	for at := range words {
		for _, x := range []api.Word{0, 1, 4, 5, words[at] + 2, words[at] ^ 1<<33, w.root, last, words[m.Intn(len(words))], 1 << 63, api.Word(2 * m.Intn(len(words)))} {
			other := slices.Clone(words)
			other[at] = x
			h, e := heap.Load(w.h.Cells(), 0, other...)
			if e != api.OK {
				continue
			}
			loaded++
			tried(t, h, w.root, last)
			if m.Intn(20) == 0 {
				tried(t, h, roots[m.Intn(len(roots))], roots[m.Intn(len(roots))])
			}
		}
	}
	if loaded < 5*len(words) {
		t.Errorf("the test tries too little: %d", loaded)
	}
}

// Memory of which many words are others.
func TestStrangeMemory(t *testing.T) {
	w := newWorld(t, "foo", "")
	for seed := range int64(2000) {
		m := rand.New(rand.NewSource(seed))
		h := w.h.Clone()
		var all []api.Word
		for p := h.First(); p != 0; p = h.After(p) {
			all = append(all, p)
		}
		one := func() api.Word {
			if m.Intn(4) == 0 {
				return []api.Word{0, 1, 2, 3, 99, 1 << 40}[m.Intn(6)]
			}
			return all[m.Intn(len(all))]
		}
		for range 1 + m.Intn(40) {
			if m.Intn(3) == 0 {
				h.SetClass(one(), one())
			} else {
				h.Put(one(), m.Intn(30), one())
			}
		}
		for range 1 + m.Intn(6) {
			h.Put(w.root, m.Intn(sound.Special), one())
		}
		h, _ = heap.Load(h.Used()+m.Intn(300), 0, h.Words()...)
		tried(t, h, w.root, one())
	}
}
