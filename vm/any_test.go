package vm

import (
	"math"
	"math/rand"
	"slices"
	"strings"
	"testing"

	"foundling/api"
	"foundling/boot"
	"foundling/frame"
	"foundling/head"
	"foundling/heap"
	"foundling/sound"
)

// busy: a program that has a bit of everything.
const busy = `Object subclass: #P fields: 'f'! P methods! doesNotUnderstand: m f := m. ^m selector! each: b ^b value: 3! late: x ^[:k | ^x]! !
UndefinedObject methods! start | s p a | s := Semaphore new setup. s timer. a := Array new: 2. a at: 1 put: 'x'.
p := [s wait. 'p' out. self yield. nil zork] process. p priority: 4. p resume. [s signal. self yield. P new zork: 1 with: 2] process resume.
(P new each: [:k | k + 1]) digits out. self perform: #yield. (self perform: #perform:with: all: #(+ 3)) out.
self save ifTrue: ['t' out] ifFalse: ['f' out]. [s wait. (P new late: 3) value: 4] process resume. self yield. [:k | k] value: 3. self gc. p running terminate! !
`

// tried: New of this memory; what it answers runs, and ends.
func tried(t *testing.T, h *heap.Heap, root api.Word, steps int) (isOne bool, end int) {
	t.Helper()
	before := h.Clone()
	m, e := New(h, root, Options{Input: []byte{1}, Ticks: []int{5, 9, 30, 31, 400}, Collects: []int{3, 40}})
	isSound := sound.Check(h, root) == 0
	if isSound != (e == api.OK) || isSound != (m != nil) || e != api.OK && e != api.ErrKind {
		t.Fatalf("P24.1: New: %d, of memory that breaks rule %d", e, sound.Check(h, root))
	}
	if m == nil {
		return false, 0
	}
	for range 3 {
		end = m.Run(steps)
	}
	if end != Running && m.Run(5) != end || end < Running || end > Broken {
		t.Fatalf("P24.1: %d, and then another end", end)
	}
	m.Events()
	if !h.Same(before) {
		t.Fatalf("Memory: the heap that was handed in has changed")
	}
	return true, end
}

// Memory that is empty, or none; a machine that is none.
func TestNoMachine(t *testing.T) {
	empty, _ := heap.New(16)
	full, _ := heap.New(100)
	full.Alloc(4, head.Slots, 30, 4)
	full.Alloc(4, head.Raw, 100, 4)
	full.Alloc(2, head.Fields, 3, 66)
	for _, h := range []*heap.Heap{nil, {}, empty, full} {
		for _, root := range []api.Word{0, 1, 2, 4, 68, 98, 1 << 63, math.MaxUint64} {
			m, e := New(h, root, Options{})
			if m != nil || e != api.ErrKind {
				t.Errorf("P24.1: New: %v, %d", m, e)
			}
		}
	}
	for _, m := range []*Machine{nil, {}} {
		if end := m.Run(9); end != Broken || m.Steps() != 0 || m.Count() != 0 || m.Events() != nil || m.Rest() != nil || m.Image() != nil || m.Used() != 0 || m.Collected() != 0 {
			t.Errorf("P24.1: a machine that is none: %s", names[end])
		}
	}
}

// Cut behind each object, and changed word by word: it is told, or runs and ends.
func TestAnyMemory(t *testing.T) {
	t.Parallel()
	h, root := memoryOf(t, 4000, busy)
	words := h.Words()
	for cut := range len(words) {
		if g, e := heap.Load(4000, 0, words[:cut]...); e == api.OK {
			if isOne, _ := tried(t, g, root, 50); isOne {
				t.Errorf("P24.1: a machine of memory that was cut at %d", cut)
			}
		}
	}
	r := rand.New(rand.NewSource(24))
	var all []api.Word
	for w := h.First(); w != 0; w = h.After(w) {
		all = append(all, w)
	}
	ends := map[string]int{}
	for at := range words {
		for _, x := range []api.Word{0, 1, 3, all[r.Intn(len(all))], words[at] + 2, words[at] ^ 1<<33, words[at] ^ 1<<(1+r.Intn(20)), 1 << 63} {
			other := slices.Clone(words)
			other[at] = x
			g, e := heap.Load(4000, 0, other...)
			if e != api.OK || x == words[at] {
				continue
			}
			if isOne, end := tried(t, g, root, 60); isOne {
				ends[names[end]]++
			} else {
				ends["none"]++
			}
		}
	}
	if ends["none"] < 1000 || ends["done"]+ends["running"] < 1000 || ends["broken"] < 100 {
		t.Errorf("the test tries too little: %v", ends)
	}
}

// Memory that is sound, but none that layer 18 has made: it ends.
func TestStrangeMemory(t *testing.T) {
	t.Parallel()
	ends := map[string]int{}
	for seed := range int64(1500) {
		r := rand.New(rand.NewSource(seed))
		h, root := memoryOf(t, 4000, busy)
		m := made(t, h, root, Options{Ticks: []int{20}})
		m.Run(r.Intn(150))
		h, root = m.inside.Heap, m.inside.root
		var all, some []api.Word
		for w := h.First(); w != 0; w = h.After(w) {
			all = append(all, w)
			d, _ := h.Head(w)
			name, _ := h.Get(d.Class, sound.Name)
			text, _ := h.Bytes(name)
			if strings.Contains(" Method Context Block Process Semaphore ", " "+string(text)+" ") {
				some = append(some, w)
			}
		}
		schedule, _ := h.Get(root, sound.Schedule)
		for range 1 + r.Intn(4) {
			x := []api.Word{1, 3, 5, 401, api.Word(r.Intn(1<<21)<<1 | 1), all[r.Intn(len(all))], some[r.Intn(len(some))]}[r.Intn(7)]
			w := some[r.Intn(len(some))]
			if r.Intn(3) == 0 {
				w = schedule
			}
			d, _ := h.Head(w)
			h.Put(w, r.Intn(d.Size), x)
		}
		if r.Intn(20) == 0 {
			h.Put(root, sound.Schedule, all[r.Intn(len(all))])
		}
		isOne, end := tried(t, h, root, 300)
		if isOne {
			ends[names[end]]++
		}
	}
	for _, name := range []string{"done", "broken"} {
		if ends[name] < 20 {
			t.Errorf("the test tries too little: %v", ends)
		}
	}
}

// Senders, and homes, that lead back; contexts that are none; code that goes beyond, or asks for more than there is.
func TestBroken(t *testing.T) {
	t.Parallel()
	text := start("| i | i := self late. self each: [:k | ^k]. i value! late ^[^3]! each: b ^b value: 3")
	contextOf := func(h *heap.Heap, root api.Word) api.Word {
		p, _ := h.Get(root, sound.Schedule)
		p, _ = h.Get(p, boot.Active)
		c, _ := h.Get(p, 0)
		return c
	}
	for steps := range 30 {
		for i := range boot.First + 3 {
			for _, x := range []int{0, 1, 2, 3, 4, 5, 6} {
				h, root := memoryOf(t, 4000, text)
				m := made(t, h, root, Options{})
				m.Run(steps)
				h, root = m.inside.Heap, m.inside.root
				c := contextOf(h, root)
				nothing, _ := h.Get(root, sound.Nil)
				sender, _ := h.Get(c, boot.Sender)
				h.Put(c, i, []api.Word{c, nothing, sender, 1, 99, root, 1<<64 - 1}[x])
				tried(t, h, root, 40)
			}
		}
	}
	h, root := memoryOf(t, 4000, text)
	c := contextOf(h, root)
	h.Put(c, boot.Pc, 9999)
	m := made(t, h, root, Options{Collects: []int{1}})
	for range 3 {
		if end := m.Run(10); end != Broken || m.Steps() != 0 || m.Count() != 0 || m.Collected() != 0 || len(m.Events()) != 0 {
			t.Errorf("P24.1: %s behind %d steps", names[end], m.Steps())
		}
	}
}

// What an instruction comes to can't be done: a Sender that is no context, or is full; a method of fewer slots than arguments.
func TestBrokenBehind(t *testing.T) {
	text := start("self with: 3. 'never' out! with: x ^x")
	for i, change := range []func(in *machine, c api.Word){
		func(in *machine, c api.Word) { in.Put(c, boot.Sender, in.root) },
		func(in *machine, c api.Word) {
			for f, _ := frame.Open(in.Heap, in.root, in.word(c, boot.Sender)); f.Push(1) == api.OK; {
			}
		},
	} {
		m := machineOf(t, 4000, Options{Collects: []int{8}}, text)
		m.Run(6) // PushNil, Send, PushSelf, PushSmall, Send, PushTemp
		change(m.inside, m.inside.context())
		if end := m.Run(10); end != Broken || m.Steps() != 6 || m.Count() != 2 || len(m.Events()) != 0 {
			t.Errorf("P24.1: change %d: %s behind %d steps", i, names[end], m.Steps())
		}
	}
	m := machineOf(t, 4000, Options{}, text)
	m.Run(4)
	for w := m.inside.First(); w != 0; w = m.inside.After(w) {
		if m.inside.text(m.inside.word(w, 3)) == "with:" && m.inside.isOf(w, sound.MethodClass) {
			m.inside.Put(w, headerAt, 1024*2+1) // in halves: a stack of 1
		}
	}
	if end := m.Run(10); end != Broken || m.Steps() != 4 || m.Count() != 1 {
		t.Errorf("P24.1: a method without slots: %s behind %d steps, at %d", names[end], m.Steps(), m.Count())
	}
}

// Arrays are Slots, of Array or below.
func TestWords(t *testing.T) {
	m := machineOf(t, 4000, Options{}, "Array subclass: #L fields: ''! Object subclass: #P fields: 'a b'!", start("'x' out"))
	in := m.inside
	other, _ := in.made(sound.MessageClass, head.Fields, 1, 3)
	odd, _ := in.Alloc(in.special(sound.ArrayClass), head.Fields, 2, 1)
	raw, _ := in.Alloc(in.special(sound.ArrayClass), head.Raw, 2, 1)
	for _, w := range []api.Word{in.context(), other, odd, raw, in.nothing(), 0, 1, 7, 1<<64 - 2, in.special(sound.Lacks)} {
		if list, isList := in.words(w); isList || list != nil {
			t.Errorf("P24.1: words of %x: %x", w, list)
		}
	}
	some, _ := in.made(sound.ArrayClass, head.Slots, 1, 3)
	if list, isList := in.words(some); !isList || !slices.Equal(list, []api.Word{1, 3}) {
		t.Errorf("P24.1: words of an Array: %x, %v", list, isList)
	}
}

// All Ticks behind the greatest count, and below the least one: counts go round, and each call ends.
func TestFarCounts(t *testing.T) {
	text := start("| s | s := Semaphore new setup. s timer. s wait. 'a' out. s wait. 'b' out. s wait. 'c' out")
	for _, o := range []Options{
		{Ticks: []int{math.MaxInt, math.MaxInt - 1, math.MinInt}, Count: math.MaxInt - 2},
		{Ticks: []int{math.MaxInt, math.MinInt, math.MinInt + 1}, Count: math.MaxInt},
		{Ticks: []int{math.MaxInt, math.MinInt, 3}, Count: math.MinInt},
		{Ticks: []int{math.MaxInt}, Count: 0},
	} {
		m := machineOf(t, 30000, o, text)
		if end := m.Run(1000); end != Done {
			t.Errorf("P24.1: %+v: %s", o, names[end])
		}
	}
	m := machineOf(t, 30000, Options{Count: api.MaxInt - 1}, start("self count digits out. self count. 'x' out"))
	if m.Run(99) != Done || lines(m.Events()) != "4611686018427387903 / f84 / x" {
		t.Errorf("P24.1: a count that is no number: %s", lines(m.Events()))
	}
}
