package find

import (
	"fmt"
	"math/rand"
	"strconv"
	"testing"

	"foundling/api"
	"foundling/head"
	"foundling/sound"
)

// wide: memory with so many classes below Object, and as many messages that Object understands.
func wide(t *testing.T, classes, names int) (*world, []api.Word, []api.Word) {
	t.Helper()
	var files []string
	for i := range classes {
		files = append(files, definition("C"+strconv.Itoa(i), "Object", ""))
	}
	text := "Object methods! "
	for i := range names {
		text += "m" + strconv.Itoa(i) + " ^1! "
	}
	w := newWorld(t, append(files, text+"!")...)
	var list, symbols []api.Word
	for i := range classes {
		list = append(list, w.words["C"+strconv.Itoa(i)])
	}
	for i := range names {
		symbols = append(symbols, w.symbols["m"+strconv.Itoa(i)])
	}
	return w, list, symbols
}

// P19.2

func counts(t *testing.T, c *Cache, length, hits int) {
	t.Helper()
	if c.Len() != length || c.Hits() != hits {
		t.Fatalf("P19.2: %d pairs, %d hits; want %d, %d", c.Len(), c.Hits(), length, hits)
	}
}

func TestZeroCache(t *testing.T) {
	var c Cache
	counts(t, &c, 0, 0)
	c.Forget()
	counts(t, &c, 0, 0)
	w := newWorld(t, "Object methods! foo ^1! !")
	method, ok := c.Find(w.h, w.root, w.words["Array"], w.symbols["foo"])
	if method != w.classes["Object"].methods["foo"] || !ok {
		t.Errorf("P19.2: Find = %x, %v", method, ok)
	}
	counts(t, &c, 1, 0)
	counts(t, &Cache{}, 0, 0)
}

// find: as Lookup has to.
func (w *world) find(c *Cache, class, name string) {
	w.t.Helper()
	method, ok := c.Find(w.h, w.root, w.words[class], w.symbols[name])
	if want, _, isThere := w.lookup(class, name); method != want || ok != isThere {
		w.t.Errorf("P19.2: Find of %s in %s: %x, %v; want %x, %v", name, class, method, ok, want, isThere)
	}
}

func TestCache(t *testing.T) {
	w := newWorld(t, definition("A", "Object", ""), "Object methods! foo ^1! bar ^1! ! A methods! foo ^2! ! A class methods! foo ^3! !")
	before := w.h.Clone()
	c := &Cache{}
	w.find(c, "A", "foo")
	counts(t, c, 1, 0)
	w.find(c, "A", "foo")
	counts(t, c, 1, 1)
	w.find(c, "Object", "foo") // the same name, another class
	counts(t, c, 2, 1)
	w.find(c, "A", "bar") // the same class, another name
	counts(t, c, 3, 1)
	w.find(c, "A class", "foo")
	counts(t, c, 4, 1)
	for i := range 3 { // what isn't found isn't remembered
		w.find(c, "A", "start")
		w.find(c, "Object", "doesNotUnderstand:")
		counts(t, c, 4, 1+i)
		w.find(c, "A", "bar")
		counts(t, c, 4, 2+i)
	}
	for _, p := range []api.Word{0, 1, w.root, w.special(sound.Nil)} {
		if method, ok := c.Find(w.h, w.root, p, w.symbols["foo"]); method != 0 || ok {
			t.Errorf("P19.2: Find in no class: %x, %v", method, ok)
		}
		if method, ok := c.Find(w.h, w.root, w.words["A"], p); method != 0 || ok {
			t.Errorf("P19.2: Find of no name: %x, %v", method, ok)
		}
	}
	// A name as the class, a class as the name: another pair.
	if method, ok := c.Find(w.h, w.root, w.symbols["foo"], w.words["A"]); method != 0 || ok {
		t.Errorf("P19.2: Find the other way round: %x, %v", method, ok)
	}
	counts(t, c, 4, 4)
	c.Forget()
	counts(t, c, 0, 4)
	w.find(c, "A", "foo")
	counts(t, c, 1, 4)
	w.find(c, "A", "foo")
	counts(t, c, 1, 5)
	c.Forget()
	c.Forget()
	counts(t, c, 0, 5)
	w.sound(before)
}

// 511, 512 pairs are remembered; ahead of the 513th all are forgotten.
func TestCacheFull(t *testing.T) {
	w, classes, names := wide(t, 27, 19) // 513 pairs
	foo := w.classes["Object"].methods
	c := &Cache{}
	find := func(i int) {
		t.Helper()
		class, name := classes[i/19], names[i%19]
		if method, ok := c.Find(w.h, w.root, class, name); method != foo["m"+strconv.Itoa(i%19)] || !ok {
			t.Fatalf("P19.2: Find of pair %d: %x, %v", i, method, ok)
		}
	}
	for i := range 511 {
		find(i)
		counts(t, c, i+1, 0)
	}
	for i := range 511 {
		find(i)
		counts(t, c, 511, i+1)
	}
	find(511)
	counts(t, c, 512, 511)
	for i := range 512 {
		find(i)
		counts(t, c, 512, 512+i)
	}
	if _, ok := c.Find(w.h, w.root, classes[0], w.symbols["start"]); ok {
		t.Errorf("P19.2: Find of what isn't there")
	}
	counts(t, c, 512, 1023) // what isn't found isn't the next pair
	find(512)
	counts(t, c, 1, 1023)
	find(512)
	counts(t, c, 1, 1024)
	find(0)
	counts(t, c, 2, 1024)
	for i := 1; i < 511; i++ {
		find(i)
	}
	counts(t, c, 512, 1024)
	find(511) // again the 513th one
	counts(t, c, 1, 1024)
	c.Forget()
	counts(t, c, 0, 1024)
}

// put: a class has just this method of this name now.
func (w *world) put(class, name string, method api.Word) {
	list := w.alloc(w.words["Array"], head.Slots, w.symbols[name], method)
	w.h.Put(w.words[class], sound.Methods, list)
	k := w.classes[class]
	k.methods = map[string]api.Word{name: method}
	w.classes[class] = k
	if n := sound.Check(w.h, w.root); n != 0 {
		w.t.Fatalf("the memory breaks rule %d", n)
	}
}

// What was found is answered till it is forgotten, whatever memory says; what wasn't is looked for again.
func TestCacheChanged(t *testing.T) {
	w := newWorld(t, definition("A", "Object", ""), "Object methods! foo ^1! ! A methods! foo ^2! bar ^3! ! UndefinedObject methods! other ^4! !")
	c := &Cache{}
	w.find(c, "A", "foo")
	w.find(c, "A", "start")
	old := w.classes["A"].methods["foo"]
	other := w.classes["UndefinedObject"].methods["other"]
	w.put("A", "foo", other)
	for i := range 3 {
		if method, ok := c.Find(w.h, w.root, w.words["A"], w.symbols["foo"]); method != old || !ok {
			t.Errorf("P19.2: Find behind a change: %x, %v; want what was remembered, %x", method, ok, old)
		}
		counts(t, c, 1, i+1)
	}
	c.Forget()
	w.find(c, "A", "foo")
	counts(t, c, 1, 3)
	w.put("A", "start", old)
	w.find(c, "A", "start") // wasn't found ahead
	counts(t, c, 2, 3)
	if method, ok := c.Find(w.h, w.root, w.words["A"], w.symbols["foo"]); method != other || !ok {
		t.Errorf("P19.2: Find behind a change: %x, %v; want what was remembered, %x", method, ok, other)
	}
	// Another memory, another root, are not asked at all.
	if method, ok := c.Find(nil, 0, w.words["A"], w.symbols["start"]); method != old || !ok {
		t.Errorf("P19.2: Find of what is remembered looks: %x, %v", method, ok)
	}
	c.Forget()
	if method, ok := c.Find(nil, 0, w.words["A"], w.symbols["start"]); method != 0 || ok {
		t.Errorf("P19.2: Find of what was forgotten: %x, %v", method, ok)
	}
}

// By chance, against a plain model: a list of what was found since all was forgotten.
func TestCacheChance(t *testing.T) {
	w, classes, names := wide(t, 40, 30)
	names = append(names, w.symbols["start"], w.symbols["C1"])
	methods := w.classes["Object"].methods
	forgets := 0
	for seed := range int64(20) {
		m := rand.New(rand.NewSource(seed))
		c := &Cache{}
		seen := map[string]int{}
		hits := 0
		for range 6000 {
			if m.Intn(1500) == 0 {
				c.Forget()
				clear(seen)
			}
			class, name := classes[m.Intn(1+m.Intn(40))], names[m.Intn(32)]
			want := methods[w.text(name)]
			if method, ok := c.Find(w.h, w.root, class, name); method != want || ok != (want != 0) {
				t.Fatalf("P19.2: seed %d: Find = %x, %v; want %x", seed, method, ok, want)
			}
			pair := fmt.Sprint(class, " ", name)
			switch {
			case want == 0:
			case seen[pair] > 0:
				hits++
			default:
				if len(seen) == 512 {
					clear(seen)
					forgets++
				}
				seen[pair]++
			}
			counts(t, c, len(seen), hits)
		}
	}
	if forgets < 20 {
		t.Errorf("the test tries too little: %d", forgets)
	}
}
