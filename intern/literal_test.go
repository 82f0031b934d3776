package intern

import (
	"fmt"
	"maps"
	"math"
	"reflect"
	"slices"
	"strings"
	"testing"

	"foundling/api"
	"foundling/head"
	"foundling/heap"
	"foundling/scope"
	"foundling/sound"
)

// Short forms of literals.

func number(n int64) scope.Item       { return scope.Item{Kind: scope.Int, Num: n} }
func text(s string) scope.Item        { return scope.Item{Kind: scope.Text, Name: s} }
func symbol(s string) scope.Item      { return scope.Item{Kind: scope.Symbol, Name: s} }
func global(s string) scope.Item      { return scope.Item{Kind: scope.Global, Name: s} }
func bare(kind int) scope.Item        { return scope.Item{Kind: kind} }
func list(k ...scope.Item) scope.Item { return scope.Item{Kind: scope.List, Kids: k} }

// brief: the beginning of how a literal is written.
func brief(x scope.Item) string { return fmt.Sprintf("%.200s", fmt.Sprint(x)) }

// deep: a List in which so many stand within one another, itself too.
func deep(count int, within ...scope.Item) scope.Item {
	x := list(within...)
	for range count - 1 {
		x = list(number(1), x, text("a"))
	}
	return x
}

// need: how many cells a literal takes, and how many of its symbols are new ones; known are those that are there.
func need(x scope.Item, known map[string]api.Word) int {
	switch x.Kind {
	case scope.Text:
		return cells(len(x.Name), 0)
	case scope.Symbol:
		if _, isThere := known[x.Name]; isThere {
			return 0
		}
		known[x.Name] = 0
		return cells(len(x.Name), 0) + cells(0, len(known))
	case scope.List:
		sum := cells(0, len(x.Kids))
		for _, kid := range x.Kids {
			sum += need(kid, known)
		}
		return sum
	}
	return 0
}

// is: is a word just what a literal says? Of Texts and Lists each is a new object, behind what was there, and behind its Kids.
func (w *world) is(p api.Word, x scope.Item, before *heap.Heap, seen map[api.Word]int) bool {
	d, _ := w.h.Head(p)
	isNew := func(class string) bool {
		seen[p]++
		return seen[p] == 1 && !before.Has(p) && d.Class == w.classes[class] && d.Hash == 0 && !d.Mark
	}
	switch x.Kind {
	case scope.Int:
		return p == api.Word(x.Num)*2+1
	case scope.Nil:
		return p == w.special(sound.Nil)
	case scope.True:
		return p == w.special(sound.True)
	case scope.False:
		return p == w.special(sound.False)
	case scope.Global:
		return p == w.classes[x.Name] && p != 0
	case scope.Symbol:
		w.symbols[x.Name] = p
		return d.Class == w.classes["Symbol"] && w.text(p) == x.Name
	case scope.Text:
		return isNew("String") && d.Kind == head.Raw && d.Size == len(x.Name) && w.text(p) == x.Name
	}
	for i, kid := range x.Kids {
		word, _ := w.h.Get(p, i)
		if !w.is(word, kid, before, seen) || (kid.Kind == scope.Text || kid.Kind == scope.List) && word >= p {
			return false
		}
	}
	return isNew("Array") && d.Kind == head.Slots && d.Size == len(x.Kids)
}

// make: of a literal that may be.
func (w *world) make(x scope.Item) api.Word {
	w.t.Helper()
	before := w.h.Clone()
	known := map[string]api.Word{}
	for text := range w.symbols {
		known[text] = 1
	}
	cells := need(x, known)
	p, e := Make(w.h, w.root, x)
	if e != api.OK || !w.is(p, x, before, map[api.Word]int{}) {
		w.t.Fatalf("P17.3: Make(%s) = %x, %d", brief(x), p, e)
	}
	if w.h.Used() != before.Used()+cells {
		w.t.Errorf("P17.3: Make(%s) took %d cells, want %d", brief(x), w.h.Used()-before.Used(), cells)
	}
	w.kept("Make", before)
	w.sound("Make")
	return p
}

// read: of a word that is a literal's.
func (w *world) read(p api.Word, want scope.Item) {
	w.t.Helper()
	before := w.h.Clone()
	if got, e := Read(w.h, w.root, p); e != api.OK || !reflect.DeepEqual(got, want) {
		w.t.Errorf("P17.3: Read(%x) = %s, %d; want %s", p, brief(got), e, brief(want))
	}
	w.same("Read", before)
}

// both: a literal, made and read, and made again.
func (w *world) both(x scope.Item) {
	w.t.Helper()
	p := w.make(x)
	w.read(p, x)
	w.read(w.make(x), x)
}

// unmade: the error of a literal, and how many cells were taken all the same.
func (w *world) unmade(x scope.Item, want api.Errno, cells int) {
	w.t.Helper()
	before := w.h.Clone()
	if p, e := Make(w.h, w.root, x); p != 0 || e != want {
		w.t.Errorf("P17.3: Make(%s) = %x, %d; want %d", brief(x), p, e, want)
	}
	if w.h.Used() > before.Used()+cells {
		w.t.Errorf("P17.3: Make(%s) left %d cells", brief(x), w.h.Used()-before.Used())
	}
	if n := sound.Check(w.h, w.root); n != 0 {
		w.t.Errorf("P17.3: behind Make(%s) the memory breaks rule %d", brief(x), n)
	}
	w.kept("Make of what is none", before)
}

// unread: the error of a word.
func (w *world) unread(p api.Word, want api.Errno) {
	w.t.Helper()
	before := w.h.Clone()
	if x, e := Read(w.h, w.root, p); e != want || !reflect.DeepEqual(x, scope.Item{}) {
		w.t.Errorf("P17.3: Read(%x) = %s, %d; want %d", p, brief(x), e, want)
	}
	w.same("Read of what is none", before)
}

// P17.3

func TestLiterals(t *testing.T) {
	w := newWorld(t, "foo", "")
	for _, n := range []int64{0, 1, -1, 127, 128, -129, api.MaxInt, api.MaxInt - 1, api.MinInt, api.MinInt + 1} {
		w.both(number(n))
	}
	for _, s := range []string{"", "a", "foo", "Object", "it's", "\x00", "\xff\x00\xff", bytes(8), bytes(256), bytes(api.MaxText - 1), bytes(api.MaxText)} {
		w.both(text(s))
		w.both(symbol(s))
		w.both(list(text(s), symbol(s), text(s)))
	}
	for _, kind := range []int{scope.Nil, scope.True, scope.False} {
		w.both(bare(kind))
	}
	for name := range w.classes {
		w.both(global(name))
	}
	w.both(list())
	w.both(list(list(), list(list())))
	w.both(list(number(5), text("a"), symbol("b"), bare(scope.Nil), bare(scope.True), bare(scope.False), global("Ape"), list(text("a"), symbol("b"), symbol("c"), list(number(-5))), text("a")))
}

func TestNumbers(t *testing.T) {
	w := newWorld(t)
	for _, n := range []int64{api.MaxInt + 1, api.MinInt - 1, math.MaxInt64, math.MinInt64} {
		w.unmade(number(n), api.ErrOver, 0)
		w.unmade(list(number(n)), api.ErrOver, 0)
	}
}

func TestTooLong(t *testing.T) {
	w := newWorld(t)
	for _, count := range []int{api.MaxText + 1, api.MaxText + 100, api.MaxObject + 1} {
		w.unmade(text(bytes(count)), api.ErrSize, 0)
		w.unmade(symbol(bytes(count)), api.ErrSize, 0)
		w.unmade(list(text(bytes(count))), api.ErrSize, 0)
		w.unmade(list(list(symbol(bytes(count)))), api.ErrSize, 0)
	}
	w.left(0)
	w.unmade(text(bytes(api.MaxText+1)), api.ErrSize, 0)
	w.unmade(symbol(bytes(api.MaxText+1)), api.ErrSize, 0)
	w.unmade(text(bytes(api.MaxText)), api.ErrFull, 0)
	// No literal says as much as these Strings have.
	w.left(10000)
	w.read(w.raw("String", bytes(api.MaxText)), text(bytes(api.MaxText)))
	long := w.raw("String", bytes(api.MaxText+1))
	w.unread(long, api.ErrKind)
	w.unread(w.array(long), api.ErrKind)
}

func TestGreatestList(t *testing.T) {
	w := newWorld(t)
	w.left(2*api.MaxObject + 100)
	w.unmade(list(make([]scope.Item, api.MaxObject+1)...), api.ErrSize, 0)
	kids := slices.Repeat([]scope.Item{bare(scope.True)}, api.MaxObject+1)
	w.unmade(list(kids...), api.ErrSize, 0)
	w.unmade(list(text("a"), list(kids...)), api.ErrSize, 3)
	p, e := Make(w.h, w.root, list(kids[1:]...))
	if d, _ := w.h.Head(p); e != api.OK || d.Size != api.MaxObject || d.Class != w.classes["Array"] {
		t.Fatalf("P17.3: Make of the greatest List: %+v, %d", d, e)
	}
	if x, e := Read(w.h, w.root, p); e != api.OK || !reflect.DeepEqual(x, list(kids[1:]...)) {
		t.Errorf("P17.3: Read of the greatest Array: %d of Kids, %d", len(x.Kids), e)
	}
	// Where too many Kids stand first in a List, or behind another error.
	w.unmade(list(list(kids...), bare(scope.Self)), api.ErrSize, 0)
	w.unmade(list(bare(scope.Self), list(kids...)), api.ErrKind, 0)
	kids[0] = bare(scope.Self)
	w.unmade(list(kids...), api.ErrSize, 0)
	kids[0], kids[1] = bare(scope.True), global("Nobody")
	w.unmade(list(kids[:3]...), api.ErrNone, 0)
	w.unmade(list(kids...), api.ErrSize, 0)
}

func TestOtherKinds(t *testing.T) {
	w := newWorld(t)
	for kind := -3; kind < 300; kind++ {
		if kind >= scope.Int && kind <= scope.False || kind == scope.Global {
			continue
		}
		x := scope.Item{Kind: kind, Name: "Object", Num: 1, Kids: []scope.Item{number(1)}}
		w.unmade(x, api.ErrKind, 0)
		w.unmade(list(x), api.ErrKind, 0)
		w.unmade(list(text("a"), list(number(1), x)), api.ErrKind, 3)
	}
	w.unmade(bare(math.MaxInt), api.ErrKind, 0)
	w.unmade(bare(math.MinInt), api.ErrKind, 0)
}

func TestNobody(t *testing.T) {
	w := newWorld(t, "foo", "Nobody")
	for _, name := range []string{"Nobody", "", "foo", "Ap", "Apex", "ape", "Object class", "zzz", strings.Repeat("O", 9000)} {
		w.unmade(global(name), api.ErrNone, 0)
		w.unmade(list(list(global(name))), api.ErrNone, 0)
	}
	for _, text := range []string{"a", "Z", "zz"} {
		w.intern(text)
	}
	for name := range w.classes {
		w.both(global(name))
	}
}

// Of a List's errors that of its first Kid that has one, within it too.
func TestFirstOfList(t *testing.T) {
	wrong := map[api.Errno]scope.Item{api.ErrSize: text(bytes(api.MaxText + 1)), api.ErrNone: global("Nobody"), api.ErrOver: number(math.MaxInt64), api.ErrKind: bare(scope.Self)}
	w := newWorld(t)
	for e, x := range wrong {
		for _, other := range wrong {
			for _, l := range []scope.Item{
				list(x, other), list(number(1), x, number(2), other, x), list(list(x, other), other), list(list(list(number(3)), list(x)), other),
				list(text("a"), symbol("new"), x, text("b"), other),
			} {
				w.unmade(l, e, 1000)
				delete(w.symbols, "new") // it may be there, and needn't
			}
		}
	}
	// No room for a Kid ahead is told ahead, room for those behind isn't asked for.
	w = newWorld(t)
	for e, x := range wrong {
		w.left(2)
		w.unmade(list(text("a"), x), api.ErrFull, 0)
		w.unmade(list(symbol("a"), x), api.ErrFull, 0)
		w.unmade(list(list(number(1)), x), api.ErrFull, 0)
		w.unmade(list(x, text("a")), e, 0)
		w.unmade(list(x), e, 0)
		w.left(3)
		w.unmade(list(text("a"), x, text("b")), e, 3)
	}
}

// Just as much room as a literal takes, and less.
func TestMakeRoom(t *testing.T) {
	for _, x := range []scope.Item{
		text(""), text("a"), text(bytes(8)), text(bytes(9)), text(bytes(api.MaxText)), symbol("new"), list(), list(number(1)), list(list()), list(text("a"), symbol("b"), list(text("cc"), symbol("d"), symbol("b")), global("Ape")),
	} {
		room := need(x, newWorld(t).symbols)
		for free := range min(room, 500) {
			w := newWorld(t)
			w.left(free)
			w.unmade(x, api.ErrFull, free)
		}
		w := newWorld(t)
		w.left(room - 1)
		w.unmade(x, api.ErrFull, room-1)
		w = newWorld(t)
		w.left(room)
		w.make(x)
		if w.h.Free() != 0 {
			t.Errorf("P17.3: of just the cells that were needed %d are left", w.h.Free())
		}
	}
	// What needs none.
	w := newWorld(t)
	w.left(0)
	for _, x := range []scope.Item{number(5), bare(scope.Nil), bare(scope.True), bare(scope.False), global("Ape"), symbol("Ape")} {
		w.both(x)
	}
}

// How deep Lists may be: Make takes all, Read those that are no deeper than MaxDeep.
func TestDeep(t *testing.T) {
	for _, within := range [][]scope.Item{nil, {number(1)}, {text("a"), global("Ape")}} {
		w := newWorld(t)
		for _, count := range []int{1, 2, 39, 40} {
			w.both(deep(count, within...))
		}
		w.both(list(list(), deep(39, within...), number(1)))
		for _, count := range []int{41, 42, 100} {
			w.unread(w.make(deep(count, within...)), api.ErrDeep)
			w.unread(w.array(1, w.make(list()), w.make(deep(count-1, within...))), api.ErrDeep)
		}
	}
	w := newWorld(t)
	h, _ := heap.Load(1<<20, 0, w.h.Words()...)
	p, e := Make(h, w.root, deep(1<<16))
	if e != api.OK {
		t.Fatalf("P17.3: Make of Lists 2^16 deep: %d", e)
	}
	if _, e := Read(h, w.root, p); e != api.ErrDeep {
		t.Errorf("P17.3: Read of Arrays 2^16 deep: %d", e)
	}
}

// nested: an object in so many Arrays, or a literal in so many Lists.

func (w *world) nested(p api.Word, count int) api.Word {
	for range count {
		p = w.array(p)
	}
	return p
}

func nested(x scope.Item, count int) scope.Item {
	for range count {
		x = list(x)
	}
	return x
}

// Words that are no literal's.
func TestNoLiteral(t *testing.T) {
	w := newWorld(t)
	others := []api.Word{0, 2, 4, 6, 1 << 30, 1 << 63, math.MaxUint64 - 1, api.Word(2 * w.h.Used()), w.root + 2, w.classes["Ape"] + 2}
	for _, p := range others[1:] {
		if w.h.Has(p) {
			others = slices.DeleteFunc(others, func(x api.Word) bool { return x == p })
		}
	}
	for name, class := range w.classes {
		others = append(others, w.classOf(class))
		switch kinds[name] % 4 {
		case head.Fields:
			others = append(others, w.object(name))
		case head.Slots:
			if name != "Array" {
				others = append(others, w.alloc(class, head.Slots), w.alloc(class, head.Slots, 1, 3))
			}
		default:
			if name == "Zebra" {
				others = append(others, w.raw(name, "a"), w.raw(name, ""))
			}
		}
	}
	// Objects that are like a class.
	like := w.object("Class")
	w.h.Put(like, sound.Name, w.symbols["Ape"])
	others = append(others, like)
	for _, p := range others {
		w.unread(p, api.ErrKind)
		if p != 0 && !w.h.Has(p) {
			continue // no sound memory has it as a word
		}
		for _, q := range []api.Word{w.array(p), w.array(1, p, 3), w.array(w.array(), w.array(1, w.array(p)))} {
			w.unread(q, api.ErrKind)
		}
	}
	// What is in the root is a literal only as far as it is one.
	w.read(w.special(sound.Schedule), list(bare(scope.Nil)))
	w.h.Put(w.special(sound.Schedule), 0, like)
	w.unread(w.special(sound.Schedule), api.ErrKind)
	w.unread(w.root, api.ErrKind)
	var names []scope.Item
	for _, text := range slices.Sorted(maps.Keys(w.symbols)) {
		names = append(names, symbol(text))
	}
	w.read(w.special(sound.Symbols), list(names...))
	names = nil
	for _, text := range slices.Sorted(maps.Keys(w.classes)) {
		names = append(names, symbol(text), global(text))
	}
	w.read(w.special(sound.Globals), list(names...))
	w.read(w.special(sound.Lacks), symbol("doesNotUnderstand:"))
}

// Arrays that lead to themselves, or to others in more ways than can be gone; of what is no literal, and what is too deep, the lesser error is told.
func TestReadTangled(t *testing.T) {
	w := newWorld(t)
	other := w.object("Ape")
	round := w.array(1, 1)
	w.h.Put(round, 0, round)
	w.h.Put(round, 1, round)
	w.unread(round, api.ErrDeep)
	w.unread(w.array(round), api.ErrDeep)
	w.unread(w.array(other, round), api.ErrDeep)
	w.unread(w.array(round, other), api.ErrDeep)
	w.unread(w.array(w.array(other), 1, w.array(w.array(round))), api.ErrDeep)
	first, second := w.array(1, 1, 1), w.array(1)
	w.h.Put(first, 2, second)
	w.h.Put(second, 0, first)
	w.unread(first, api.ErrDeep)
	w.unread(second, api.ErrDeep)
	low, tall := w.array(1), w.array(1)
	for range 39 {
		low, tall = w.array(low, low, low), w.array(tall, other)
	}
	w.unread(w.array(low), api.ErrDeep)
	w.unread(tall, api.ErrKind)
	w.unread(w.array(tall), api.ErrDeep)
	shared := w.array()
	for range 38 {
		shared = w.array(shared, shared, shared)
	}
	w.unread(w.array(shared, other), api.ErrKind)
	w.unread(w.array(other, shared), api.ErrKind)
	// An Array that is met high up, and again further down.
	some, x := w.nested(w.array(), 19), nested(list(), 19)
	w.read(some, x)
	w.read(w.array(some, w.nested(some, 19)), list(x, nested(x, 19)))
	w.read(w.array(w.nested(some, 19), some), list(nested(x, 19), x))
	w.unread(w.array(some, w.nested(some, 20)), api.ErrDeep)
	w.unread(w.array(w.nested(some, 20), some), api.ErrDeep)
	w.unread(w.array(some, w.nested(some, 20), some, w.array(), 1), api.ErrDeep)
	w.unread(w.array(w.array(), w.array(some, w.nested(some, 19), w.array(), 1), w.array(), other), api.ErrDeep)
}
