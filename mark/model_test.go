package mark

import (
	"math/rand"
	"slices"
	"testing"

	"foundling/api"
	"foundling/head"
	"foundling/heap"
)

// model: what each object leads to, told from the words of memory alone.
type model struct {
	cells map[api.Word]int
	leads map[api.Word][]api.Word
}

func modelOf(h *heap.Heap) model {
	m := model{map[api.Word]int{}, map[api.Word][]api.Word{}}
	words := h.Words()
	for at := 0; at < len(words); {
		w := api.Word(2 * (at + 2))
		size, kind := int(words[at+1]%(1<<32)), words[at+1]>>32%16
		m.leads[w] = []api.Word{words[at]}
		if kind == 2 {
			size = (size + 7) / 8
		} else {
			m.leads[w] = append(m.leads[w], words[at+2:][:size]...)
		}
		m.leads[w] = leading(m.leads[w])
		m.cells[w] = 2 + size
		at += 2 + size
	}
	return m
}

// leading: those of the words that lead.
func leading(words []api.Word) []api.Word {
	return slices.DeleteFunc(slices.Clone(words), func(w api.Word) bool { return w%2 == 1 || w == 0 })
}

// far: how many leads it takes to each object that the roots lead to: what takes fewer is put down until nothing changes. Is nothing loose?
func (m model) far(roots []api.Word) (map[api.Word]int, bool) {
	out := map[api.Word]int{}
	put := func(w api.Word, n int) bool {
		old, there := out[w]
		if there && old <= n {
			return false
		}
		out[w] = n
		return true
	}
	for _, w := range leading(roots) {
		put(w, 0)
	}
	for changed := true; changed; {
		changed = false
		for from, leads := range m.leads {
			n, there := out[from]
			for _, w := range leads {
				changed = there && put(w, n+1) || changed
			}
		}
	}
	for w := range out {
		if m.cells[w] == 0 {
			return nil, false
		}
	}
	return out, true
}

// ordered: is the list in the order in which its objects are first led to? Each one's first leader (the roots count as one ahead of the first) stands ahead of it, and these places, with those among the leads, rise.
func (m model) ordered(roots, list []api.Word) bool {
	first := map[api.Word][2]int{}
	for i, leads := range append([][]api.Word{leading(roots)}, m.leadsOf(list)...) {
		for k, w := range leads {
			if _, there := first[w]; !there {
				first[w] = [2]int{i, k}
			}
		}
	}
	last := [2]int{-1, -1}
	for i, w := range list {
		place, there := first[w]
		if !there || place[0] > i || slices.Compare(place[:], last[:]) <= 0 {
			return false
		}
		last = place
	}
	return true
}

func (m model) leadsOf(list []api.Word) [][]api.Word {
	var out [][]api.Word
	for _, w := range list {
		out = append(out, m.leads[w])
	}
	return out
}

// chance: memory of objects that lead to one another, and now and then to what is loose; and some roots.
func chance(t *testing.T, seed int64) (*heap.Heap, []api.Word) {
	t.Helper()
	random := rand.New(rand.NewSource(seed))
	h := fresh(t, 16+random.Intn(100))
	var all []api.Word
	for {
		kind, size := random.Intn(3), random.Intn(5)
		if kind == head.Raw {
			size = random.Intn(20)
		}
		w, e := h.Alloc(4, kind, size, 0)
		if e != api.OK {
			break
		}
		all = append(all, w)
	}
	pointer := func() api.Word {
		if random.Intn(25) == 0 {
			return api.Word(2 + 2*random.Intn(3*h.Cells()))
		}
		return all[random.Intn(len(all))]
	}
	word := func() api.Word {
		if random.Intn(4) == 0 {
			return pointer()
		}
		return []api.Word{0, 1, all[0] + 1, pointer() + 1}[random.Intn(4)]
	}
	for _, w := range all {
		d, _ := h.Head(w)
		if random.Intn(3) == 0 {
			h.SetClass(w, pointer())
		}
		for i := range d.Size {
			h.Put(w, i, word())
			h.PutByte(w, i, byte(2*random.Intn(128)))
		}
	}
	var roots []api.Word
	for range random.Intn(4) {
		roots = append(roots, []api.Word{pointer(), pointer(), word()}[random.Intn(3)])
	}
	return h, roots
}

// Whatever is in memory: Reach, Order and Steps are as the plain model has them, and the heap stays.
func TestByChance(t *testing.T) {
	tried := [3]int{} // loose; some are reached, not all; the roots lead to more than they are
	for seed := range 4000 {
		h, roots := chance(t, int64(seed))
		before, m := h.Clone(), modelOf(h)
		far, whole := m.far(roots)
		if !whole {
			tried[0]++
			checkLoose(t, h, roots...)
		} else {
			if len(far) > 0 && len(far) < len(m.cells) {
				tried[1]++
			}
			if len(far) > len(roots) {
				tried[2]++
			}
			checkReached(t, h, m, roots, far)
		}
		checkAllSteps(t, h, m, int64(seed))
		if !h.Same(before) {
			t.Errorf("P5.4: the heap has changed")
		}
		if t.Failed() {
			t.Fatalf("of seed %d", seed)
		}
	}
	if slices.Min(tried[:]) < 300 {
		t.Errorf("P5.1: the test tries too little: %v", tried)
	}
}

func checkReached(t *testing.T, h *heap.Heap, m model, roots []api.Word, far map[api.Word]int) {
	t.Helper()
	var want []api.Word
	cells := 0
	for w := range far {
		want = append(want, w)
		cells += m.cells[w]
	}
	set, n, e := Reach(h, roots...)
	if e != api.OK || n != cells || set.Size() != h.Cells() || !slices.Equal(numbers(set), places(want...)) {
		t.Errorf("P5.1: Reach of %x = %v, %d, %d; want %v, %d", roots, numbers(set), n, e, places(want...), cells)
	}
	for _, at := range numbers(set) {
		for _, w := range m.leads[api.Word(2*at)] {
			if !set.Has(int(w / 2)) {
				t.Errorf("P5.1: what is reached leads to %x, which isn't", w)
			}
		}
	}
	list, e := Order(h, roots...)
	if e != api.OK || !slices.Equal(places(list...), places(want...)) || !m.ordered(roots, list) {
		t.Errorf("P5.2: Order of %x = %x, %d", roots, list, e)
	}
}

// checkAllSteps: from one object, which chance names, to each, and to some words that are none.
func checkAllSteps(t *testing.T, h *heap.Heap, m model, seed int64) {
	t.Helper()
	from := h.First()
	for range seed % 5 {
		if next := h.After(from); next != 0 {
			from = next
		}
	}
	far, whole := m.far([]api.Word{from})
	for w := range api.Word(2*h.Cells() + 4) {
		n, there := far[w]
		switch {
		case !whole || m.cells[w] == 0:
			checkOneStep(t, h, from, w, 0, api.ErrKind)
		case there:
			checkOneStep(t, h, from, w, n, api.OK)
		default:
			checkOneStep(t, h, from, w, 0, api.ErrNone)
		}
	}
}

func checkOneStep(t *testing.T, h *heap.Heap, from, to api.Word, want int, wantError api.Errno) {
	t.Helper()
	if n, e := Steps(h, from, to); n != want || e != wantError {
		t.Errorf("P5.3: Steps from %x to %x = %d, %d; want %d, %d", from, to, n, e, want, wantError)
	}
}
