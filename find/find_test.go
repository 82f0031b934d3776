package find

import (
	"math"
	"math/rand"
	"slices"
	"testing"

	"foundling/api"
	"foundling/gc"
	"foundling/head"
	"foundling/heap"
	"foundling/intern"
	"foundling/small"
	"foundling/sound"
)

// P19.1

func TestExample(t *testing.T) {
	w := newWorld(t, definition("P", "Object", ""), definition("Q", "P", ""), "Object methods! foo ^1! ! P methods! foo ^2! bar ^3! !")
	for _, x := range []struct {
		class, name, where string
		up                 int
	}{{"P", "foo", "P", 0}, {"P", "bar", "P", 0}, {"Q", "foo", "P", 1}, {"Q", "bar", "P", 1}, {"Object", "foo", "Object", 0}, {"Array", "foo", "Object", 1}} {
		method, up, ok := Lookup(w.h, w.root, w.words[x.class], w.symbols[x.name])
		if want := w.classes[x.where].methods[x.name]; method != want || want == 0 || up != x.up || !ok {
			t.Errorf("P19.1: Lookup of %s in %s: %x, %d, %v; want %x, %d", x.name, x.class, method, up, ok, want, x.up)
		}
	}
	if method, up, ok := Lookup(w.h, w.root, w.words["Object"], w.symbols["bar"]); method != 0 || up != 0 || ok {
		t.Errorf("P19.1: Lookup of bar in Object: %x, %d, %v", method, up, ok)
	}
	w.check()
}

// Own, one and several classes up, in none, in both; of classes' classes, whose way leads by those of the classes above to Class, and on.
func TestLookup(t *testing.T) {
	w := newWorld(t, definition("A", "Object", ""), definition("B", "A", ""), definition("C", "B", ""), definition("D", "A", ""),
		"Object methods! top ^1! all ^1! deep ^1! ! A methods! all ^2! a ^2! ! B methods! all ^3! b ^3! ! C methods! all ^4! c ^4! ! D methods! d ^5! !",
		"Object class methods! new ^6! top ^6! ! A class methods! new ^7! a ^7! ! C class methods! c ^8! deep ^8! ! Class methods! name ^9! top ^9! b ^9! ! Metaclass methods! name ^10! meta ^10! !")
	for _, x := range []struct {
		class, name, where string
		up                 int
	}{
		{"C", "c", "C", 0}, {"C", "all", "C", 0}, {"C", "b", "B", 1}, {"C", "a", "A", 2}, {"C", "top", "Object", 3},
		{"B", "all", "B", 0}, {"A", "all", "A", 0}, {"D", "all", "A", 1}, {"Object", "all", "Object", 0}, {"Symbol", "all", "Object", 2},
		{"D", "b", "", 0}, {"B", "c", "", 0}, {"A", "new", "", 0}, {"C", "doesNotUnderstand:", "", 0}, {"C", "name", "", 0}, {"C", "meta", "", 0},
		{"C class", "c", "C class", 0}, {"C class", "a", "A class", 2}, {"C class", "new", "A class", 2}, {"String class", "new", "Object class", 1},
		{"C class", "b", "Class", 4}, {"Object class", "b", "Class", 1}, {"C class", "top", "Object class", 3}, {"C class", "all", "Object", 5},
		{"C class", "deep", "C class", 0}, {"B class", "deep", "Object", 4}, {"C class", "name", "Class", 4}, {"C class", "meta", "", 0}, {"C class", "d", "", 0},
		{"Class", "name", "Class", 0}, {"Metaclass", "name", "Metaclass", 0}, {"Class class", "name", "Class", 2}, {"Metaclass class", "meta", "", 0}, {"Class class", "new", "Object class", 1},
	} {
		method, up, ok := Lookup(w.h, w.root, w.words[x.class], w.symbols[x.name])
		want := w.classes[x.where].methods[x.name]
		if method != want || up != x.up || ok != (want != 0) || (x.where == "") != (want == 0) {
			t.Errorf("P19.1: Lookup of %s in %s: %x, %d, %v; want %x, %d", x.name, x.class, method, up, ok, want, x.up)
		}
	}
	w.check()
}

func TestChance(t *testing.T) {
	found := 0
	for seed := range int64(150) {
		w := newWorld(t, maker{rand.New(rand.NewSource(seed))}.file())
		w.check()
		for _, c := range w.classes {
			found += len(c.methods)
		}
		if t.Failed() {
			t.Fatalf("seed %d", seed)
		}
	}
	if found < 1000 {
		t.Errorf("the test tries too little: %d methods", found)
	}
}

// others: words that are no symbol, with the bytes of one among them.
func (w *world) others(text string) []api.Word {
	like, _ := w.h.Alloc(w.words["String"], head.Raw, len(text), 0)
	for i := range len(text) {
		w.h.PutByte(like, i, text[i])
	}
	return []api.Word{0, 1, 2, 3, like, w.root, w.special(sound.Nil), w.words["Object"], w.symbols[text] + 2, w.symbols[text] | 1, 1 << 40, math.MaxUint64}
}

func TestNoName(t *testing.T) {
	w := newWorld(t, "Object methods! foo ^1! !")
	for _, name := range append(w.others("foo"), w.classes["Object"].methods["foo"]) {
		before := w.h.Clone()
		if method, up, ok := Lookup(w.h, w.root, w.words["Object"], name); method != 0 || up != 0 || ok {
			t.Errorf("P19.1: Lookup of %x, which is no symbol: %x, %d, %v", name, method, up, ok)
		}
		w.sound(before)
	}
}

// noClass: a word that is none has no methods, stands nowhere, and its instances understand nothing.
func (w *world) noClass(what string, p api.Word) {
	w.t.Helper()
	for _, symbol := range w.symbols {
		if method, up, ok := Lookup(w.h, w.root, p, symbol); method != 0 || up != 0 || ok {
			w.t.Errorf("P19.1: Lookup in %s: %x, %d, %v", what, method, up, ok)
		}
	}
	for _, above := range []api.Word{p, w.words["Object"], w.special(sound.Nil), 0} {
		if Kin(w.h, w.root, p, above) {
			w.t.Errorf("P19.3: Kin(%s, %x)", what, above)
		}
	}
	for name, class := range w.words {
		if Kin(w.h, w.root, class, p) {
			w.t.Errorf("P19.3: Kin(%s, %s)", name, what)
		}
	}
	if all := All(w.h, w.root, p); len(all) > 0 {
		w.t.Errorf("P19.3: All(%s) = %x", what, all)
	}
}

// Of a method the words stand where a class has its own: its literals may look like a list of methods.
func TestNoClass(t *testing.T) {
	w := newWorld(t, "Object methods! foo ^#foo foo: 'text' bar: #bar! bar ^1! foo: x bar: y ^x! !")
	isClass := map[api.Word]int{}
	for _, c := range w.words {
		isClass[c]++
	}
	before := w.h.Clone()
	count := 0
	for p := w.h.First(); p != 0; p = w.h.After(p) {
		if isClass[p] == 0 {
			count++
			w.noClass("an object", p)
		}
	}
	for _, p := range []api.Word{0, 1, 3, 2, w.words["Object"] + 2, w.words["Object"] | 1, 1 << 40, 1 << 63, math.MaxUint64} {
		w.noClass("a word", p)
	}
	w.sound(before)
	if count < 50 {
		t.Errorf("the test tries too little: %d", count)
	}
}

// alloc: a new object of words.
func (w *world) alloc(class api.Word, kind int, words ...api.Word) api.Word {
	p, e := w.h.Alloc(class, kind, len(words), 1)
	if e != api.OK {
		w.t.Fatalf("heap.Alloc: %d", e)
	}
	for i, x := range words {
		w.h.Put(p, i, x)
	}
	return p
}

// A class is the only instance of its class: another one that memory has, and another object of MetaClass, are none, whatever they have.
func TestOrphans(t *testing.T) {
	w := newWorld(t, "Object methods! foo ^1! !")
	list, _ := w.h.Get(w.words["Object"], sound.Methods)
	for _, class := range []string{"Object class", "Array class", "Metaclass", "Metaclass class"} {
		for _, name := range []api.Word{w.symbols["Object"], w.words["Object"], w.words["Array"], w.words["Object class"], 1} {
			p := w.alloc(w.words[class], head.Fields, w.words["Object"], list, 1, name, list)
			before := w.h.Clone()
			w.noClass("another instance of "+class, p)
			w.sound(before)
			w.h.Put(p, sound.Name, p) // its own name
			w.noClass("another instance of "+class, p)
		}
	}
	w.check()
}

// nil ends a way, also where it has words like a class.
func TestNilWithWords(t *testing.T) {
	w := newWorld(t, definition("A", "Object", ""), "Object methods! foo ^1! ! A methods! bar ^1! !")
	list, _ := w.h.Get(w.words["A"], sound.Methods)
	old := w.special(sound.Nil)
	fresh := w.alloc(w.words["UndefinedObject"], head.Fields, w.words["A"], list, 1, w.symbols["A"], list)
	w.h.Put(w.words["UndefinedObject"], sound.Format, 4*5*2+1)
	w.h.Swap(old, fresh)
	w.h.Put(w.root, sound.Spare, w.words["A"]) // of this one nothing is asked
	roots, _ := gc.Collect(w.h, w.root)
	before := w.h.Clone()
	supers := w.classes
	w.root = roots[0]
	w.learn()
	for name, c := range w.classes {
		w.classes[name] = class{name, supers[name].super, c.methods}
	}
	w.sound(before)
	w.check()
	w.noClass("nil", w.special(sound.Nil))
}

// P19.3

func TestClassOf(t *testing.T) {
	w := newWorld(t, definition("A", "Object", "a b"), definition("L", "Array", ""))
	w.alloc(w.words["A"], head.Fields, 1, 3)
	w.alloc(w.words["L"], head.Slots)
	w.h.Alloc(w.words["String"], head.Raw, 9, 0)
	before := w.h.Clone()
	for _, n := range []int64{0, 1, -1, 2, -2, 1000, api.MaxInt, api.MinInt} {
		word, _ := small.Of(n)
		if c := ClassOf(w.h, w.root, word); c != w.words["SmallInteger"] {
			t.Errorf("P19.3: ClassOf the number %d: %x", n, c)
		}
	}
	isObject := map[api.Word]int{}
	for p := w.h.First(); p != 0; p = w.h.After(p) {
		isObject[p]++
		if d, _ := w.h.Head(p); ClassOf(w.h, w.root, p) != d.Class {
			t.Errorf("P19.3: ClassOf %x: %x, want %x", p, ClassOf(w.h, w.root, p), d.Class)
		}
	}
	for at := range w.h.Cells() + 10 {
		if p := api.Word(2 * at); isObject[p] == 0 && ClassOf(w.h, w.root, p) != 0 {
			t.Errorf("P19.3: ClassOf %x, which is no object: %x", p, ClassOf(w.h, w.root, p))
		}
	}
	for _, p := range []api.Word{1 << 25, 1 << 40, 1 << 63, math.MaxUint64 - 1} {
		if c := ClassOf(w.h, w.root, p); c != 0 {
			t.Errorf("P19.3: ClassOf %x: %x", p, c)
		}
	}
	w.sound(before)
}

func TestKin(t *testing.T) {
	w := newWorld(t, definition("A", "Object", ""), definition("B", "A", ""), definition("C", "B", ""), definition("D", "A", ""))
	for _, x := range []struct {
		class, above string
		want         bool
	}{
		{"A", "A", true}, {"B", "A", true}, {"C", "A", true}, {"C", "Object", true}, {"Object", "Object", true},
		{"A", "B", false}, {"Object", "A", false}, {"B", "D", false}, {"D", "C", false}, {"A", "A class", false}, {"A", "Class", false},
		{"A class", "A class", true}, {"C class", "A class", true}, {"C class", "Class", true}, {"Object class", "Object", true}, {"A class", "A", false},
		{"A class", "B class", false}, {"A class", "Metaclass", false}, {"Symbol", "String", true}, {"String", "Symbol", false}, {"Class class", "Class", true},
	} {
		if got := Kin(w.h, w.root, w.words[x.class], w.words[x.above]); got != x.want {
			t.Errorf("P19.3: Kin(%s, %s) = %v", x.class, x.above, got)
		}
	}
	w.check()
}

// Names of the one above stand below, too; they rise by their bytes, whatever these are.
func TestAll(t *testing.T) {
	w := newWorld(t, definition("A", "Object", ""), definition("B", "A", ""),
		"Object methods! b ^1! a ^1! z ^1! ! A methods! b ^2! ab ^2! a: x ^2! + x ^2! Z ^2! ! B methods! b ^3! a ^3! aa ^3! !")
	var got []string
	for _, symbol := range All(w.h, w.root, w.words["B"]) {
		got = append(got, w.text(symbol))
	}
	if want := []string{"+", "Z", "a", "a:", "aa", "ab", "b", "z"}; !slices.Equal(got, want) {
		t.Errorf("P19.3: All = %q, want %q", got, want)
	}
	if got := All(w.h, w.root, w.words["A class"]); len(got) != 3 {
		t.Errorf("P19.3: All of a class's class: %x", got)
	}
	method := w.classes["Object"].methods["a"]
	texts := []string{"", "\x00", "\x00\x00", "a\x00", "a\xff", "\x7f", "\x80", "\xff", "\xff\x00"}
	var words []api.Word
	for _, text := range texts {
		symbol, _ := intern.Intern(w.h, w.root, text)
		words = append(words, symbol, method)
	}
	w.h.Put(w.words["Message"], sound.Methods, w.alloc(w.words["Array"], head.Slots, words...))
	w.h.Put(w.words["Process"], sound.Methods, w.alloc(w.words["Array"], head.Slots))
	supers := w.classes
	w.learn()
	for name, c := range w.classes {
		w.classes[name] = class{name, supers[name].super, c.methods}
	}
	w.check()
	if got := All(w.h, w.root, w.words["Message"]); len(got) != len(texts)+3 {
		t.Errorf("P19.3: All of any bytes: %x", got)
	}
	// What is answered is new memory.
	one, two := All(w.h, w.root, w.words["B"]), All(w.h, w.root, w.words["B"])
	clear(one[:cap(one)])
	if !slices.Equal(two, w.all("B")) {
		t.Errorf("P19.3: what All answers shares memory")
	}
}

// A kernel without methods.
func TestNothing(t *testing.T) {
	w := newWorld(t)
	w.check()
	for _, c := range w.words {
		if all := All(w.h, w.root, c); len(all) > 0 {
			t.Errorf("P19.3: All = %x", all)
		}
	}
}

// Of other memory each call ends, and changes nothing.

func tried(t *testing.T, h *heap.Heap, root api.Word, words ...api.Word) {
	t.Helper()
	before := h.Clone()
	for _, class := range words {
		for _, name := range words {
			method, up, ok := Lookup(h, root, class, name)
			again, n, isThere := Lookup(h, root, class, name)
			if method != again || up != n || ok != isThere || !ok && (method != 0 || up != 0) {
				t.Fatalf("P19.1: Lookup in any memory: %x, %d, %v; then %x, %d, %v", method, up, ok, again, n, isThere)
			}
			c := Cache{}
			if m, isThere := c.Find(h, root, class, name); m != method || isThere != ok || c.Len() > 0 != ok {
				t.Fatalf("P19.2: Find in any memory: %x, %v; Lookup %x, %v", m, isThere, method, ok)
			}
			Kin(h, root, class, name)
		}
		if one, two := All(h, root, class), All(h, root, class); !slices.Equal(one, two) {
			t.Fatalf("P19.3: All in any memory: %x, then %x", one, two)
		}
		if c := ClassOf(h, root, class); class%2 == 0 && !h.Has(class) && c != 0 {
			t.Fatalf("P19.3: ClassOf %x in any memory: %x", class, c)
		}
	}
	if !h.Clone().Same(before) {
		t.Fatalf("P19.1: the memory has changed")
	}
}

func TestNoMemory(t *testing.T) {
	empty, _ := heap.New(16)
	full, _ := heap.New(100)
	full.Alloc(4, 1, 30, 4)
	full.Alloc(4, 2, 100, 4)
	full.Alloc(2, 0, 5, 66)
	for _, h := range []*heap.Heap{nil, {}, empty, full} {
		for _, root := range []api.Word{0, 1, 2, 4, 68, 98, 1 << 63, math.MaxUint64} {
			tried(t, h, root, 0, 1, 2, 3, 4, 66, 68, 98, 1<<30, 1<<63, math.MaxUint64)
		}
	}
}

func TestAnyMemory(t *testing.T) {
	w := newWorld(t, definition("A", "Object", ""), "Object methods! foo ^1! ! A methods! foo ^1! bar ^2! !")
	a, list := w.words["A"], w.special(sound.Globals)
	words := w.h.Words()
	for cut := range len(words) {
		if h, e := heap.Load(w.h.Used(), 0, words[:cut]...); e == api.OK {
			tried(t, h, w.root, a, w.symbols["foo"], w.words["A class"], 0)
		}
	}
	loaded := 0
	for at := range words {
		for _, x := range []api.Word{0, 1, 4, words[at] + 2, words[at] ^ 1<<33, w.root, a, list, 1 << 63} {
			other := slices.Clone(words)
			other[at] = x
			h, e := heap.Load(w.h.Used(), 0, other...)
			if e != api.OK {
				continue
			}
			loaded++
			tried(t, h, w.root, a, w.symbols["foo"])
			tried(t, h, x, a, w.words["A class"], w.symbols["foo"])
		}
	}
	if loaded < 4*len(words) {
		t.Errorf("the test tries too little: %d", loaded)
	}
}

// Ways up that lead back to themselves, of any length, behind any beginning.
func TestCycles(t *testing.T) {
	var files []string
	names := []string{"Object"}
	for i := range 20 {
		name := "C" + string(rune('a'+i))
		files = append(files, definition(name, names[i], ""))
		names = append(names, name)
	}
	w := newWorld(t, append(files, "Object methods! foo ^1! ! Cc methods! bar ^1! !")...)
	for to := range names {
		for from := range names[:to+1] {
			h := w.h.Clone()
			h.Put(w.words[names[from]], sound.Super, w.words[names[to]]) // those below it still lead to it
			tried(t, h, w.root, w.words[names[20]], w.words[names[from]], w.symbols["foo"], w.symbols["bar"], w.symbols["start"])
			for _, name := range names[from : to+1] {
				if !Kin(h, w.root, w.words[names[20]], w.words[name]) {
					t.Errorf("P19.3: Kin on a way that leads back: %s", name)
				}
			}
			if method, up, ok := Lookup(h, w.root, w.words["Cc"], w.symbols["bar"]); method != w.classes["Cc"].methods["bar"] || up != 0 || !ok {
				t.Errorf("P19.1: Lookup on a way that leads back: %x, %d, %v", method, up, ok)
			}
		}
	}
}

func TestStrangeMemory(t *testing.T) {
	w := newWorld(t, definition("A", "Object", ""), "Object methods! foo ^1! ! A methods! foo ^1! bar ^2! ! A class methods! new ^1! !")
	for seed := range int64(1500) {
		m := rand.New(rand.NewSource(seed))
		h := w.h.Clone()
		var all []api.Word
		for p := h.First(); p != 0; p = h.After(p) {
			all = append(all, p)
		}
		one := func() api.Word {
			if m.Intn(4) == 0 {
				return []api.Word{0, 1, 2, 3, 99, 1 << 40}[m.Intn(6)]
			}
			return all[m.Intn(len(all))]
		}
		for range 1 + m.Intn(40) {
			if m.Intn(3) == 0 {
				h.SetClass(one(), one())
			} else {
				h.Put(one(), m.Intn(30), one())
			}
		}
		tried(t, h, w.root, w.words["A"], w.words["A class"], w.symbols["foo"], one(), one())
	}
}
