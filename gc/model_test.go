package gc

import (
	"math/rand"
	"slices"
	"testing"

	"foundling/api"
	"foundling/head"
	"foundling/heap"
)

// part: a word of the plain model: a number, a nought or a byte's cell as it is, or the thing to which it points.
type part struct {
	word api.Word
	to   *thing
}

// thing: an object of the model: its class, what else its head has, its cells.
type thing struct {
	class part
	rest  api.Word
	cells []part
}

// model: the things in their order; loose is where all that is loose points.
type model struct {
	things []*thing
	loose  *thing
}

// modelOf: told from the words of memory alone.
func modelOf(h *heap.Heap) (*model, func(w api.Word) part) {
	m := &model{loose: &thing{}}
	words, there := h.Words(), map[api.Word]*thing{}
	for at := 0; at < len(words); at += 2 + wide(words[at+1]) {
		x := &thing{rest: words[at+1], cells: make([]part, wide(words[at+1]))}
		m.things = append(m.things, x)
		there[api.Word(2*at+4)] = x
	}
	read := func(w api.Word) part {
		if w == 0 || w%2 == 1 {
			return part{word: w}
		}
		if x, ok := there[w]; ok {
			return part{to: x}
		}
		return part{to: m.loose}
	}
	at := 0
	for _, x := range m.things {
		x.class = read(words[at])
		for i := range x.cells {
			x.cells[i] = part{word: words[at+2+i]}
			if !isRaw(x.rest) {
				x.cells[i] = read(words[at+2+i])
			}
		}
		at += 2 + len(x.cells)
	}
	return m, read
}

func isRaw(second api.Word) bool { return second>>32%16 == 2 }

func wide(second api.Word) int {
	size := int(second % (1 << 32))
	if isRaw(second) {
		return (size + 7) / 8
	}
	return size
}

// reached: by a recursion; it has the loose thing in it, if one leads there.
func (m *model) reached(out map[*thing]bool, x part) {
	if x.to == nil || out[x.to] {
		return
	}
	out[x.to] = true
	if x.to == m.loose {
		return
	}
	m.reached(out, x.to.class)
	for _, c := range x.to.cells {
		m.reached(out, c)
	}
}

// laid: the words of these things, one behind the other, and where each one stands.
func (m *model) laid(stays map[*thing]bool) ([]api.Word, func(x part) api.Word) {
	at, place := 2, map[*thing]int{}
	for _, x := range m.things {
		if stays[x] {
			place[x] = at
			at += 2 + len(x.cells)
		}
	}
	word := func(x part) api.Word {
		if x.to == nil {
			return x.word
		}
		return api.Word(2 * place[x.to])
	}
	var out []api.Word
	for _, x := range m.things {
		if stays[x] {
			out = append(out, word(x.class), x.rest)
			for _, c := range x.cells {
				out = append(out, word(c))
			}
		}
	}
	return out, word
}

// chance: memory of objects that lead to one another, and now and then to what is loose; and some roots.
func chance(t *testing.T, seed int64) (*heap.Heap, []api.Word) {
	t.Helper()
	random := rand.New(rand.NewSource(seed))
	h := fresh(t, 16+random.Intn(120))
	var all []api.Word
	for {
		kind, size := random.Intn(3), random.Intn(5)
		if kind == head.Raw {
			size = random.Intn(20)
		}
		w, e := h.Alloc(4, kind, size, 0)
		if e != api.OK || random.Intn(40) == 0 {
			break
		}
		all = append(all, w)
	}
	all = append(all, 4)
	pointer := func() api.Word {
		if random.Intn(25) == 0 {
			return api.Word(2 + 2*random.Intn(3*h.Cells()))
		}
		return all[random.Intn(len(all))]
	}
	word := func() api.Word {
		return []api.Word{0, 1, all[0] + 1, pointer() + 1, pointer(), pointer()}[random.Intn(6)]
	}
	for _, w := range all {
		d, _ := h.Head(w)
		if random.Intn(3) == 0 {
			h.SetClass(w, pointer())
			h.Tag(w)
		}
		h.SetMark(w, random.Intn(4) == 0)
		for i := range d.Size {
			h.Put(w, i, word())
			h.PutByte(w, i, byte(random.Intn(256)))
		}
	}
	var roots []api.Word
	for range random.Intn(4) {
		roots = append(roots, []api.Word{pointer(), pointer(), word()}[random.Intn(3)])
	}
	return h, roots
}

// Whatever is in memory: all of Collect, Room and Live is as the plain model has it.
func TestByChance(t *testing.T) {
	tried := [2]int{} // loose; some go, not all
	for seed := range 4000 {
		h, roots := chance(t, int64(seed))
		m, read := modelOf(h)
		stays := map[*thing]bool{}
		for _, w := range roots {
			m.reached(stays, read(w))
		}
		if stays[m.loose] {
			tried[0]++
			checkLoose(t, h, roots...)
		} else {
			if len(stays) > 0 && len(stays) < len(m.things) {
				tried[1]++
			}
			words, word := m.laid(stays)
			var want []api.Word
			for _, w := range roots {
				want = append(want, word(read(w)))
			}
			checkRooms(t, h, roots, want, words)
			before := h.Clone()
			checkCollect(t, h, roots, want, words...)
			checkAlike(t, before, h, roots, want)
		}
		if t.Failed() {
			t.Fatalf("of seed %d", seed)
		}
	}
	if slices.Min(tried[:]) < 300 {
		t.Errorf("P6.1: the test tries too little: %v", tried)
	}
}

// checkRooms: of cells around those that are free, and those that will be.
func checkRooms(t *testing.T, h *heap.Heap, roots, want, words []api.Word) {
	t.Helper()
	will := h.Cells() - 2 - len(words)
	for _, cells := range []int{0, h.Free() - 1, h.Free(), h.Free() + 1, will - 1, will, will + 1} {
		g := h.Clone()
		got, e := Room(g, cells, roots...)
		wantRoots, wantHeap, wantError := want, loaded(t, h.Cells(), h.Last(), words...), api.OK
		switch {
		case cells < 0:
			wantRoots, wantHeap, wantError = nil, h, api.ErrArg
		case cells <= h.Free():
			wantRoots, wantHeap = roots, h
		case cells > will:
			wantError = api.ErrFull
		}
		if e != wantError || !slices.Equal(got, wantRoots) || !g.Same(wantHeap) {
			t.Errorf("P6.3: Room of %d cells, of %x = %x, %d; want %x, %d", cells, roots, got, e, wantRoots, wantError)
		}
	}
}

// checkAlike (P6.2): do the roots in the one memory lead to what they lead to in the other, pair by pair?
func checkAlike(t *testing.T, old, now *heap.Heap, oldRoots, nowRoots []api.Word) {
	t.Helper()
	pairs, back := map[api.Word]api.Word{}, map[api.Word]api.Word{}
	var walk func(a, b api.Word)
	walk = func(a, b api.Word) {
		other, there := pairs[a]
		otherBack, thereBack := back[b]
		if there != thereBack || there && (other != b || otherBack != a) {
			t.Fatalf("P6.2: %x is %x and %x", a, b, other)
		}
		if there || a == b && !old.Has(a) { // a number, or 0
			return
		}
		pairs[a], back[b] = b, a
		d, e := old.Head(a)
		g, e2 := now.Head(b)
		walk(d.Class, g.Class)
		d.Class, g.Class = 0, 0
		x, e3 := old.Bytes(a)
		y, e4 := now.Bytes(b)
		if e != e2 || e3 != e4 || d != g || !slices.Equal(x, y) {
			t.Fatalf("P6.2: %x was %+v, %x; %x is %+v, %x", a, d, x, b, g, y)
		}
		for i := range d.Size {
			v, e := old.Get(a, i)
			w, e2 := now.Get(b, i)
			if e != e2 {
				t.Fatalf("P6.2: word %d of %x: %d, and %d", i, a, e, e2)
			}
			walk(v, w)
		}
	}
	for i := range oldRoots {
		walk(oldRoots[i], nowRoots[i])
	}
	for w := now.First(); w != 0; w = now.After(w) {
		if _, there := back[w]; !there {
			t.Errorf("P6.1: %x stays, though nothing leads to it", w)
		}
		if next := now.After(w); next != 0 && back[next] <= back[w] {
			t.Errorf("P6.1: the order has changed at %x", w)
		}
	}
}
