package proc

import (
	"math"
	"math/rand"
	"slices"
	"testing"

	"foundling/api"
	"foundling/boot"
	"foundling/head"
	"foundling/heap"
	"foundling/sound"
)

// anyCalls: does each call of these words end, with no list longer than there are cells?
func anyCalls(t *testing.T, h *heap.Heap, root api.Word, xs ...api.Word) {
	t.Helper()
	short := func(list []api.Word) {
		t.Helper()
		if len(list) > h.Cells() {
			t.Fatalf("P23.1: a list of %d, of %d cells", len(list), h.Cells())
		}
	}
	for i, x := range xs {
		y := xs[(i+1)%len(xs)]
		short(List(h, root))
		short(Queue(h, root, x))
		Priority(h, root, x)
		Waits(h, root, x)
		SetPriority(h, root, x, i%7)
		Ready(h, root, x)
		Active(h, root)
		if n := Top(h, root); n < 0 || n > 5 {
			t.Fatalf("P23.1: Top = %d", n)
		}
		Wait(h, root, y, x)
		Remove(h, root, x)
		Setup(h, root, x)
		Wait(h, root, x, y)
		if p, isThere := Signal(h, root, x); !isThere && p != 0 {
			t.Fatalf("P23.1: Signal = %x, false", p)
		}
		SetActive(h, root, y)
		Ready(h, root, y)
		if p, isThere := Pull(h, root); isThere == (p == 0) {
			t.Fatalf("P23.1: Pull = %x, %v", p, isThere)
		}
	}
}

// busy: a world in which some wait for each thing, and those that do.
func busy(t *testing.T) (*world, []api.Word) {
	w := newWorld(t)
	for _, s := range w.semaphores[:3] {
		Setup(w.h, w.root, s)
	}
	Signal(w.h, w.root, w.semaphores[2])
	for i, p := range w.processes {
		if i < 5 {
			Ready(w.h, w.root, p)
		} else {
			Wait(w.h, w.root, w.semaphores[i%2], p)
		}
	}
	SetPriority(w.h, w.root, w.first, 1)
	return w, slices.Concat([]api.Word{w.first}, w.processes, w.semaphores)
}

// Memory that is empty, or none.
func TestNoMemory(t *testing.T) {
	empty, _ := heap.New(16)
	full, _ := heap.New(100)
	full.Alloc(4, head.Slots, 30, 4)
	full.Alloc(4, head.Raw, 100, 4)
	full.Alloc(2, head.Fields, 3, 66)
	for _, h := range []*heap.Heap{nil, {}, empty, full} {
		for _, root := range []api.Word{0, 1, 2, 4, 68, 98, 1 << 63, math.MaxUint64} {
			anyCalls(t, h, root, 0, 1, 2, 3, 4, 66, 68, 98, 1<<30, 1<<63, math.MaxUint64)
		}
	}
}

// Cut behind each object, and changed word by word.
func TestAnyMemory(t *testing.T) {
	w, some := busy(t)
	words := w.h.Words()
	for cut := range len(words) {
		if h, e := heap.Load(w.h.Used(), 0, words[:cut]...); e == api.OK {
			anyCalls(t, h, w.root, some...)
		}
	}
	r := rand.New(rand.NewSource(23))
	all := w.everyone()
	changed := 0
	for at := range words {
		for _, x := range []api.Word{0, num(0), num(6), words[at] + 2, words[at] ^ 1<<33, all[r.Intn(len(all))], 1 << 63} {
			other := slices.Clone(words)
			other[at] = x
			if h, e := heap.Load(w.h.Used()+3, 0, other...); e == api.OK {
				changed++
				anyCalls(t, h, w.root, some[r.Intn(len(some))], some[r.Intn(len(some))], some[r.Intn(len(some))], x)
			}
		}
	}
	if changed < 2000 {
		t.Errorf("the test tries too little: %d", changed)
	}
}

// Many words of those that wait, of what they wait for, and of the root, are others: chains that lead back, to others, nowhere.
func TestStrangeChains(t *testing.T) {
	for seed := range int64(1500) {
		r := rand.New(rand.NewSource(seed))
		w, some := busy(t)
		all := w.everyone()
		for range 1 + r.Intn(12) {
			x := []api.Word{all[r.Intn(len(all))], some[r.Intn(len(some))], num(int64(r.Intn(8) - 1)), w.nothing()}[r.Intn(4)]
			switch r.Intn(4) {
			case 0:
				w.h.Put(w.special(sound.Schedule), r.Intn(boot.Slots), x)
			case 1:
				w.h.Put(some[r.Intn(len(some))], r.Intn(4), x)
			case 2:
				w.h.Put(some[r.Intn(len(some))], 2, some[r.Intn(len(some))])
			case 3:
				if r.Intn(4) == 0 {
					w.h.Put(w.root, r.Intn(sound.Special), x)
				}
			}
		}
		anyCalls(t, w.h, w.root, some...)
	}
}

// A schedule with fewer words, or none.
func TestShortSchedule(t *testing.T) {
	for count := range boot.Slots {
		w, some := busy(t)
		w.h.Put(w.root, sound.Schedule, w.alloc("Array", head.Slots, slices.Repeat([]api.Word{w.nothing()}, count)...))
		anyCalls(t, w.h, w.root, some...)
		w.h.Put(w.root, sound.Schedule, w.nothing())
		anyCalls(t, w.h, w.root, some...)
	}
}

// A ring of those that wait: all that is asked of it ends, and is as long as there are cells.
func TestRing(t *testing.T) {
	w := newWorld(t)
	s := w.semaphores[0]
	Setup(w.h, w.root, s)
	for i, p := range w.processes[:3] {
		Wait(w.h, w.root, s, p)
		w.h.Put(w.processes[i+3], 1, num(4))
		Ready(w.h, w.root, w.processes[i+3])
	}
	w.h.Put(w.processes[2], 2, w.processes[0])
	w.h.Put(w.processes[5], 2, w.processes[4])
	if n := len(Queue(w.h, w.root, s)); n != w.h.Cells() {
		t.Errorf("P23.1: Queue of a ring has %d, of %d cells", n, w.h.Cells())
	}
	if n := len(List(w.h, w.root)); n != w.h.Cells() {
		t.Errorf("P23.1: List of a ring has %d, of %d cells", n, w.h.Cells())
	}
	// A chain that leads to a process which waits for something else, or to what is none, ends there.
	w.h.Put(w.processes[1], 2, w.processes[3])
	if n := len(Queue(w.h, w.root, s)); n != 2 {
		t.Errorf("P23.1: Queue of those that are followed by another one has %d", n)
	}
	w.h.Put(w.none[0], 3, s)
	w.h.Put(w.processes[1], 2, w.none[0])
	if n := len(Queue(w.h, w.root, s)); n != 2 {
		t.Errorf("P23.1: Queue of those that are followed by what is no process has %d", n)
	}
	lost := w.processes[7]
	w.h.Put(lost, 3, s) // says that it waits, but stands in no chain
	if Remove(w.h, w.root, lost) {
		t.Errorf("P23.1: Remove of what stands in no chain")
	}
}
