package sound

import (
	"math/rand"
	"slices"
	"strings"
	"testing"

	"foundling/api"
	"foundling/head"
	"foundling/heap"
)

// thing: an object of the plain model.
type thing struct {
	class api.Word
	kind  int
	size  int
	mark  bool
	words []api.Word
	text  string
}

// model: memory as a map, told from its words alone; and what is asked of it is asked as the chapter says it, one by one.
type model struct {
	all  map[api.Word]*thing
	root *thing
}

func modelOf(h *heap.Heap, root api.Word) *model {
	m := &model{all: map[api.Word]*thing{}}
	words := h.Words()
	for at := 0; at < len(words); {
		second := words[at+1]
		x := &thing{class: words[at], kind: int(second >> 32 % 16), size: int(second % (1 << 32)), mark: second>>36%2 == 1}
		m.all[api.Word(2*at+4)] = x
		at += 2
		if x.kind != 2 {
			x.words = words[at:][:x.size]
			at += x.size
			continue
		}
		for i := range x.size {
			x.text += string([]byte{byte(words[at+i/8] >> (i % 8 * 8))})
		}
		at += (x.size + 7) / 8
	}
	m.root = m.all[root]
	return m
}

// check: the first rule that doesn't hold.
func (m *model) check() int {
	for i, holds := range []func() bool{m.rule1, m.rule2, m.rule3, m.rule4, m.rule5, m.rule6, m.rule7, m.rule8, m.rule9} {
		if !holds() {
			return i + 1
		}
	}
	return 0
}

func (m *model) rule1() bool {
	for _, x := range m.all {
		if m.all[x.class] == nil {
			return false
		}
		for _, y := range x.words {
			if y%2 == 0 && m.all[y] == nil {
				return false
			}
		}
	}
	return true
}

func (m *model) rule2() bool {
	for _, x := range m.all {
		if x.mark {
			return false
		}
	}
	return true
}

// array: is it Slots of the class at 14?
func (m *model) array(w api.Word) bool {
	x := m.all[w]
	return x != nil && x.kind == head.Slots && x.class == m.root.words[14]
}

func (m *model) rule3() bool {
	if m.root == nil || m.root.kind != head.Slots || m.root.size != 24 || m.root.class != m.root.words[14] {
		return false
	}
	for i := range 3 {
		x := m.all[m.root.words[i]]
		if x == nil || x.class != m.root.words[8+i] {
			return false
		}
	}
	return m.array(m.root.words[3]) && m.array(m.root.words[4]) && m.array(m.root.words[21])
}

// symbols: are they, with bytes that rise?
func (m *model) symbols(list ...api.Word) bool {
	for i, w := range list {
		if !m.isSymbol(w) || m.all[w].kind != head.Raw {
			return false
		}
		if i > 0 && strings.Compare(m.all[list[i-1]].text, m.all[w].text) >= 0 {
			return false
		}
	}
	return true
}

func (m *model) isSymbol(w api.Word) bool {
	return m.all[w] != nil && m.all[w].class == m.root.words[13]
}

// turns: those at the even and at the odd places of a list.
func turns(list []api.Word) (even, odd []api.Word) {
	for i, w := range list {
		if i%2 == 0 {
			even = append(even, w)
		} else {
			odd = append(odd, w)
		}
	}
	return even, odd
}

// classes: their names and they.
func (m *model) classes() (names, classes []api.Word) {
	return turns(m.all[m.root.words[3]].words)
}

func (m *model) isShaped(w api.Word) bool {
	x := m.all[w]
	return x != nil && x.kind == head.Fields && x.size == 5
}

func (m *model) rule4() bool {
	names, classes := m.classes()
	if len(names) != len(classes) || !m.symbols(names...) {
		return false
	}
	for i, c := range append(classes, m.root.words[5:21]...) {
		if !m.isShaped(c) || i < len(names) && m.all[c].words[3] != names[i] {
			return false
		}
	}
	wanted := strings.Fields("Object Class Metaclass UndefinedObject True False SmallInteger String Symbol Array Method Context Block Process Semaphore Message")
	for i, text := range wanted {
		n := slices.IndexFunc(names, func(w api.Word) bool { return m.all[w].text == text })
		if n < 0 || classes[n] != m.root.words[5+i] {
			return false
		}
	}
	return true
}

func (m *model) rule5() bool {
	_, classes := m.classes()
	for i, c := range classes {
		meta := m.all[c].class
		if !m.isShaped(meta) || m.all[meta].class != m.root.words[7] || m.all[meta].words[3] != c {
			return false
		}
		for _, other := range classes[:i] {
			if m.all[other].class == meta {
				return false
			}
		}
	}
	return true
}

func (m *model) rule6() bool {
	_, classes := m.classes()
	for _, c := range classes {
		steps := 0
		for x := c; x != m.root.words[0]; x = m.all[x].words[0] {
			if steps++; !slices.Contains(classes, x) || steps > len(classes) {
				return false
			}
		}
		super, above := m.all[c].words[0], m.all[m.all[c].class].words[0]
		if c == m.root.words[5] {
			if super != m.root.words[0] || above != m.root.words[6] {
				return false
			}
		} else if super == m.root.words[0] || above != m.all[super].class {
			return false
		}
	}
	return true
}

func (m *model) rule7() bool {
	list := m.all[m.root.words[4]].words
	for w := range m.all {
		if m.isSymbol(w) && !slices.Contains(list, w) {
			return false
		}
	}
	return m.symbols(list...)
}

func (m *model) rule8() bool {
	_, classes := m.classes()
	for _, x := range m.all {
		mine := slices.Contains(classes, x.class)
		for _, c := range classes {
			mine = mine || m.all[c].class == x.class
		}
		if !mine {
			return false
		}
		format := m.all[x.class].words[2]
		if format%2 == 0 || int64(format) < 0 || format>>1 > 1<<22 {
			return false
		}
		if x.kind != int(format>>1%4) || x.kind == head.Fields && x.size != int(format>>3) {
			return false
		}
	}
	return true
}

func (m *model) rule9() bool {
	_, classes := m.classes()
	for _, c := range classes {
		for _, w := range []api.Word{c, m.all[c].class} {
			methods, vars := m.all[w].words[1], m.all[w].words[4]
			if !m.array(methods) || !m.array(vars) {
				return false
			}
			names, bodies := turns(m.all[methods].words)
			if len(names) != len(bodies) || !m.symbols(names...) {
				return false
			}
			for _, b := range bodies {
				if m.all[b] == nil || m.all[b].class != m.root.words[15] {
					return false
				}
			}
			if slices.ContainsFunc(m.all[vars].words, func(w api.Word) bool { return !m.isSymbol(w) }) {
				return false
			}
		}
	}
	return true
}

// meddle: changes something in memory, of one of many kinds.
func meddle(random *rand.Rand, w *world) {
	var all []api.Word
	for p := w.h.First(); p != 0; p = w.h.After(p) {
		all = append(all, p)
	}
	any := func() api.Word { return all[random.Intn(len(all))] }
	one := any()
	switch random.Intn(4) { // that of which more hangs is taken more often
	case 0:
		one = w.root
	case 1:
		one = w.special(random.Intn(Special))
	}
	d, _ := w.h.Head(one)
	switch random.Intn(16) {
	case 0:
		w.h.SetMark(one, true)
	case 1, 2:
		w.h.SetClass(one, any())
	case 3:
		w.h.SetClass(one, w.special(random.Intn(Special)))
	case 4:
		w.h.Swap(any(), any())
	case 5:
		w.h.Put(one, random.Intn(d.Size+1), api.Word(random.Intn(60)))
	case 6, 7:
		from := any()
		g, _ := w.h.Head(from)
		if x, e := w.h.Get(from, random.Intn(g.Size+1)); e == api.OK {
			w.h.Put(one, random.Intn(d.Size+1), x)
		}
	case 8, 9:
		w.h.PutByte(one, random.Intn(d.Size+1), byte(random.Intn(256)))
	case 10, 11:
		a, b := random.Intn(d.Size+1), random.Intn(d.Size+1)
		x, e := w.h.Get(one, a)
		y, e2 := w.h.Get(one, b)
		if e == api.OK && e2 == api.OK {
			w.h.Put(one, a, y)
			w.h.Put(one, b, x)
		}
	case 12:
		p := w.alloc(random.Intn(3), random.Intn(6))
		w.h.SetClass(p, w.special(ObjectClass+random.Intn(16)))
	default:
		w.h.Put(one, random.Intn(d.Size+1), any())
	}
}

// Memory in which one or a few things are other ones: Check is as the plain model has it.
func TestByChance(t *testing.T) {
	random := rand.New(rand.NewSource(11))
	first := newWorld(t)
	tried := [10]int{}
	for i := range 12000 {
		w := *first
		w.h = first.h.Clone()
		for range 1 + random.Intn(3) {
			meddle(random, &w)
		}
		root := w.root
		if random.Intn(40) == 0 {
			root = api.Word(random.Intn(400))
		}
		before := w.h.Clone()
		want := modelOf(w.h, root).check()
		if got := Check(w.h, root); got != want || !w.h.Same(before) {
			t.Fatalf("P8.2: memory %d: Check = %d, want %d", i, got, want)
		}
		tried[want]++
	}
	if slices.Min(tried[:]) < 50 {
		t.Errorf("P8.2: the test tries too little: %v", tried)
	}
}

// Memory that is no Smalltalk at all: it ends, and tells rule 1, 2 or 3.
func TestNoSmalltalk(t *testing.T) {
	random := rand.New(rand.NewSource(12))
	tried := [10]int{}
	for range 4000 {
		h, _ := heap.New(400)
		var all []api.Word
		for range 1 + random.Intn(12) {
			w, e := h.Alloc(4, random.Intn(3), []int{0, 1, 3, 5, 24}[random.Intn(5)], 1)
			if e != api.OK {
				t.Fatalf("heap.Alloc: %d", e)
			}
			all = append(all, w)
		}
		some := func() api.Word { return all[random.Intn(len(all))] }
		for _, w := range all {
			d, _ := h.Head(w)
			h.SetClass(w, some())
			for i := range d.Size {
				h.Put(w, i, some())
			}
		}
		if random.Intn(3) == 0 {
			h.SetMark(some(), true)
		}
		if random.Intn(3) == 0 {
			w := some()
			h.Put(w, 0, api.Word(2*random.Intn(100)))
		}
		root := some()
		want := modelOf(h, root).check()
		if got := Check(h, root); got != want {
			t.Fatalf("P8.2: Check(%x, %x) = %d, want %d", h.Words(), root, got, want)
		}
		tried[want]++
	}
	if slices.Min(tried[1:4]) < 200 {
		t.Errorf("P8.2: the test tries too little: %v", tried)
	}
}
