package intern

import (
	"maps"
	"slices"
	"strings"
	"testing"

	"foundling/api"
	"foundling/head"
	"foundling/heap"
	"foundling/sound"
)

// singles: each byte as a text.
func singles() []string {
	var out []string
	for i := range 256 {
		out = append(out, string([]byte{byte(i)}))
	}
	return out
}

// around: texts like a text, but others.
func around(text string) []string {
	out := []string{"", text + "\x00", text + "a", text + "\xff", "a" + text, text + text, strings.ToUpper(text), strings.ToLower(text)}
	if text != "" {
		last := text[len(text)-1]
		out = append(out, text[:len(text)-1], text[1:], text[:len(text)-1]+string([]byte{last + 1}), text[:len(text)-1]+string([]byte{last - 1}))
	}
	return out
}

// find: what Find has to answer, by what was laid; nothing has changed then.
func (w *world) find(text string) {
	w.t.Helper()
	before := w.h.Clone()
	want, isThere := w.symbols[text]
	if got, ok := Find(w.h, w.root, text); got != want || ok != isThere {
		w.t.Errorf("P17.1: Find(%.40q) = %x, %v; want %x", text, got, ok, want)
	}
	need := 0
	if !isThere {
		need = cells(len(text), 0) + cells(0, len(w.symbols)+1)
	}
	if got := Need(w.h, w.root, text); got != need {
		w.t.Errorf("P17.4: Need(%.40q) = %d, want %d", text, got, need)
	}
	w.same("Find", before)
}

// intern: of a text that may be; answers its word.
func (w *world) intern(text string) api.Word {
	w.t.Helper()
	before := w.h.Clone()
	need := Need(w.h, w.root, text)
	old, isThere := w.symbols[text]
	got, e := Intern(w.h, w.root, text)
	if e != api.OK || got == 0 || isThere && got != old {
		w.t.Fatalf("P17.2: Intern(%.40q) = %x, %d; it was %x", text, got, e, old)
	}
	if w.h.Used() != before.Used()+need || isThere != (need == 0) {
		w.t.Errorf("P17.4: Intern(%.40q) took %d cells, Need was %d", text, w.h.Used()-before.Used(), need)
	}
	if isThere {
		w.same("Intern of what is there", before)
		return got
	}
	if d, _ := w.h.Head(got); d != (head.Head{Class: w.classes["Symbol"], Kind: head.Raw, Size: len(text)}) || before.Has(got) || w.text(got) != text {
		w.t.Errorf("P17.2: Intern(%.40q) is %+v, %q", text, d, w.text(got))
	}
	if before.Has(w.special(sound.Symbols)) {
		w.t.Errorf("P17.2: Intern(%.40q): Symbols is no new list", text)
	}
	w.symbols[text] = got
	w.kept("Intern", before)
	w.sound("Intern")
	return got
}

// P17.1

func TestFind(t *testing.T) {
	for _, texts := range [][]string{nil, {""}, {"a", "b", "c"}, {"", "\x00", "\x00\x00", "\xff", "\xff\xff"}, singles(), append(singles(), ""), {bytes(api.MaxText), bytes(api.MaxText) + "b", bytes(api.MaxText - 1)}} {
		w := newWorld(t, texts...)
		for _, text := range slices.Sorted(maps.Keys(w.symbols)) {
			w.find(text)
			for _, other := range around(text) {
				w.find(other)
			}
		}
		w.find(strings.Repeat("\xff", 9))
		w.find(strings.Repeat("z", 100000))
	}
}

// However many there are, each is found, and what lies between isn't.
func TestFindMany(t *testing.T) {
	for count := range 40 {
		var texts []string
		for i := range count {
			texts = append(texts, string([]byte{'a' + byte(i), 'b'}))
		}
		w := newWorld(t, texts...)
		for i := range count + 1 {
			for _, second := range []string{"", "a", "b", "c", "ba"} {
				w.find(string([]byte{'a' + byte(i)}) + second)
			}
		}
	}
}

func TestGlobal(t *testing.T) {
	w := newWorld(t, "A", "Ap", "Apf", "Zoo", "", "start")
	before := w.h.Clone()
	for text := range w.symbols {
		for _, name := range append(around(text), text) {
			want, isThere := w.classes[name]
			if got, ok := Global(w.h, w.root, name); got != want || ok != isThere {
				t.Errorf("P17.1: Global(%q) = %x, %v; want %x", name, got, ok, want)
			}
		}
	}
	for name, want := range w.classes {
		if got, ok := Global(w.h, w.root, name); got != want || !ok {
			t.Errorf("P17.1: Global(%q) = %x, %v; want %x", name, got, ok, want)
		}
	}
	w.same("Global", before)
}

// P17.2, P17.4

func TestExample(t *testing.T) {
	w := newWorld(t)
	first := w.intern("foo")
	if again := w.intern("foo"); again != first {
		t.Errorf("P17.2: Intern twice: %x, %x", first, again)
	}
	w.find("foo")
}

// One behind the other, at every place of the list: an empty text, each byte, those ahead of and behind all, class's names, what is long.
func TestIntern(t *testing.T) {
	for _, texts := range [][]string{
		{"", "", "a", "\x00", "\xff", "a", "\xff\xff\xff", "Object", "Ape", "Ap", "Apf", "doesNotUnderstand:", "doesNotUnderstand", "doesNotUnderstand::"},
		{"z", "y", "x", "w", "", "v"},
		{"1", "2", "3", "4", "11", "111", "1\x00", "0"},
		{bytes(7), bytes(8), bytes(9), bytes(15), bytes(16), bytes(17)},
		{bytes(api.MaxText), bytes(api.MaxText - 1), bytes(api.MaxText), strings.Repeat("\xff", api.MaxText), strings.Repeat("\x00", api.MaxText)},
		singles(),
	} {
		w := newWorld(t)
		for _, text := range texts {
			w.find(text)
			w.intern(text)
			w.find(text)
			w.intern(text)
		}
		for _, text := range slices.Sorted(maps.Keys(w.symbols)) {
			w.find(text)
		}
	}
}

func TestInternTooLong(t *testing.T) {
	for _, count := range []int{api.MaxText + 1, api.MaxText + 8, 100000, api.MaxObject, api.MaxObject + 1} {
		w := newWorld(t)
		for _, free := range []int{100000, 0, 1} {
			w.left(free)
			before := w.h.Clone()
			if got, e := Intern(w.h, w.root, strings.Repeat("a", count)); got != 0 || e != api.ErrSize {
				t.Errorf("P17.2: Intern of %d bytes: %x, %d", count, got, e)
			}
			w.same("Intern of too many bytes", before)
		}
		w.find(strings.Repeat("a", count))
	}
}

// Just as much room as Need tells, and less.
func TestInternRoom(t *testing.T) {
	for _, text := range []string{"", "a", "new", bytes(8), bytes(9), bytes(api.MaxText)} {
		w := newWorld(t, "b", "c")
		need := Need(w.h, w.root, text)
		for _, free := range []int{0, 1, 2, 3, cells(len(text), 0), need / 2, need - 2, need - 1} {
			w.left(free)
			before := w.h.Clone()
			if got, e := Intern(w.h, w.root, text); got != 0 || e != api.ErrFull {
				t.Errorf("P17.2: Intern(%.40q) with %d cells, of %d: %x, %d", text, free, need, got, e)
			}
			w.same("Intern without room", before)
			w.sound("Intern without room")
			w.intern("b")
			w.intern("Object")
		}
		w.left(need)
		w.intern(text)
		if w.h.Free() != 0 {
			t.Errorf("P17.4: of just the cells that were needed %d are left", w.h.Free())
		}
		w.intern(text)
	}
}

// As many symbols as a list can have: there is no list for another one.
func TestInternGreatest(t *testing.T) {
	h, _ := heap.New(api.MaxHeap)
	root, _ := h.Alloc(4, head.Slots, sound.Special, 1)
	class, _ := h.Alloc(4, head.Fields, 0, 1)
	list, _ := h.Alloc(4, head.Slots, api.MaxObject, 1)
	h.Put(root, sound.SymbolClass, class)
	h.Put(root, sound.ArrayClass, class)
	h.Put(root, sound.Symbols, list)
	for i := range api.MaxObject {
		w, _ := h.Alloc(class, head.Raw, 3, 0)
		for n := range 3 {
			h.PutByte(w, n, byte(i>>(16-8*n)))
		}
		h.Put(list, i, w)
	}
	before := h.Clone()
	if got, e := Intern(h, root, "\x01\x02\x03"); e != api.OK || !h.Has(got) {
		t.Errorf("P17.2: Intern of what is there: %x, %d", got, e)
	}
	if got, e := Intern(h, root, "a"); got != 0 || e != api.ErrFull || !h.Same(before) {
		t.Errorf("P17.2: Intern of one symbol more: %x, %d", got, e)
	}
	h.Put(root, sound.Symbols, root) // a small list again
	if got, e := Intern(h, root, "a"); e != api.OK || !h.Has(got) {
		t.Errorf("P17.2: Intern into another list: %x, %d", got, e)
	}
}
