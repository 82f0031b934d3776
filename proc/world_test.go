package proc

import (
	"slices"
	"strings"
	"testing"

	"foundling/api"
	"foundling/boot"
	"foundling/head"
	"foundling/heap"
	"foundling/sema"
	"foundling/sound"
)

// source: the kernel, and classes below Process and Semaphore.
func source() string {
	text := "Process subclass: #Worker fields: 'tag'!\nWorker subclass: #Busy fields: ''!\nSemaphore subclass: #Gate fields: 'tag more'!\nObject subclass: #Like fields: 'a b c d'!\n"
	for _, c := range sema.Kernel() {
		super := c.Super
		if super == "" {
			super = "nil"
		}
		text += super + " subclass: #" + c.Name + " fields: '" + strings.Join(c.Own, " ") + "'!\n"
	}
	return text
}

// world: a Smalltalk's memory with processes and semaphores, and what is like them.
type world struct {
	t           *testing.T
	h           *heap.Heap
	root        api.Word
	classes     map[string]api.Word
	first       api.Word   // the first process
	processes   []api.Word // of priorities 1 to 5, by turns; they wait for nothing
	semaphores  []api.Word // that aren't set up yet
	none, wrong []api.Word // neither; and what is no word of memory
}

// num: a number's word.
func num(n int64) api.Word { return api.Word(n)<<1 | 1 }

func newWorld(t *testing.T) *world {
	t.Helper()
	p, problems := sema.Build(source())
	if len(problems) > 0 {
		t.Fatalf("no program: %v", problems)
	}
	h, root, e := boot.Build(p, 3000)
	if e != api.OK {
		t.Fatalf("boot.Build: %d", e)
	}
	w := &world{t: t, h: h, root: root, classes: map[string]api.Word{}}
	globals := w.special(sound.Globals)
	d, _ := h.Head(globals)
	for i := 0; i < d.Size; i += 2 {
		name, _ := h.Bytes(w.word(globals, i))
		w.classes[string(name)] = w.word(globals, i+1)
	}
	w.people()
	if n := sound.Check(h, root); n != 0 {
		t.Fatalf("what was laid by hand breaks rule %d", n)
	}
	return w
}

// people: lays processes, semaphores, and what is neither.
func (w *world) people() {
	nothing := w.nothing()
	w.first = Active(w.h, w.root)
	for i := range 9 {
		class := []string{"Process", "Worker", "Busy"}[i%3]
		p := w.fields(class)
		w.h.Put(p, 0, num(int64(i)))
		w.h.Put(p, 1, num(int64(i%5+1)))
		w.processes = append(w.processes, p)
		if i%4 < 2 {
			w.semaphores = append(w.semaphores, w.fields([]string{"Semaphore", "Gate"}[i%2]))
		}
	}
	for _, priority := range []api.Word{num(0), num(6), num(-1), num(1 << 32), num(1<<32 + 3), num(api.MaxInt), num(api.MinInt), nothing, w.classes["Process"], w.first} {
		p := w.fields("Worker")
		w.h.Put(p, 1, priority)
		w.none = append(w.none, p)
	}
	like := w.fields("Like")
	for i := range 4 {
		w.h.Put(like, i, num(int64(i+1)))
	}
	list := w.alloc("Array", head.Slots, num(1), num(2), nothing, nothing)
	message := w.alloc("Message", head.Fields, num(1), num(2))
	w.none = append(w.none, like, list, message, nothing, w.special(sound.True), w.root, w.special(sound.Schedule), w.special(sound.Lacks), w.classes["Process"], w.classes["Semaphore"], w.word(w.first, 0), num(0), num(3), num(-1))
	w.wrong = []api.Word{0, 2, w.root + 2, 1 << 30, 1<<64 - 2}
}

func (w *world) word(p api.Word, i int) api.Word {
	x, _ := w.h.Get(p, i)
	return x
}

func (w *world) special(i int) api.Word { return w.word(w.root, i) }

func (w *world) nothing() api.Word { return w.special(sound.Nil) }

// alloc: a new object of words.
func (w *world) alloc(class string, kind int, words ...api.Word) api.Word {
	w.t.Helper()
	p, e := w.h.Alloc(w.classes[class], kind, len(words), 1)
	if e != api.OK {
		w.t.Fatalf("heap.Alloc: %d", e)
	}
	for i, x := range words {
		w.h.Put(p, i, x)
	}
	return p
}

// fields: a new object whose fields are nil.
func (w *world) fields(class string) api.Word {
	w.t.Helper()
	format := int64(w.word(w.classes[class], sound.Format)) >> 1
	return w.alloc(class, head.Fields, slices.Repeat([]api.Word{w.nothing()}, int(format/4))...)
}

// everyone: all words that are tried.
func (w *world) everyone() []api.Word {
	return slices.Concat([]api.Word{w.first}, w.processes, w.semaphores, w.none, w.wrong)
}
