package prim

import (
	"math"
	"math/rand"
	"slices"
	"testing"

	"foundling/api"
	"foundling/head"
	"foundling/heap"
	"foundling/sound"
)

// loaded: memory of words.
func loaded(cells int, last uint32, words []api.Word) (*heap.Heap, api.Errno) {
	return heap.Load(cells, last, words...)
}

// anyMemory: does each call end, and has nothing changed where it failed?
func anyMemory(t *testing.T, h *heap.Heap, root api.Word, numbers []int, xs ...api.Word) int {
	t.Helper()
	done := 0
	before, args := h.Clone(), arities()
	for i, x := range xs {
		y, z := xs[(i+1)%len(xs)], xs[(i+2)%len(xs)]
		for _, n := range numbers {
			list := []api.Word{x, y, z}[:args[n]+1]
			p := &port{in: []byte{7}}
			if !before.Same(h) {
				before = h.Clone()
			}
			w, isDone, e := Run(h, root, n, p, list...)
			if isDone && e == api.OK {
				done++
				continue
			}
			if w != 0 || isDone || e != api.OK && e != api.ErrFull || len(p.put)+p.got > 0 || !before.Same(h) {
				t.Fatalf("P22.2: %d of %x: %x, %v, %d, or something has changed", n, list, w, isDone, e)
			}
		}
	}
	return done
}

// Memory that is empty, or none.
func TestNoMemory(t *testing.T) {
	empty, _ := heap.New(16)
	full, _ := heap.New(100)
	full.Alloc(4, 1, 30, 4)
	full.Alloc(4, 2, 100, 4)
	full.Alloc(2, 0, 3, 66)
	for _, h := range []*heap.Heap{nil, {}, empty, full} {
		for _, root := range []api.Word{0, 1, 2, 4, 68, 98, 1 << 63, math.MaxUint64} {
			anyMemory(t, h, root, all(), 0, 1, 2, 3, 4, 66, 68, 98, 1<<30, 1<<63, math.MaxUint64)
		}
	}
}

// Cut behind each object, and changed word by word.
func TestAnyMemory(t *testing.T) {
	w, some := peopled(t)
	words := w.h.Words()
	r := rand.New(rand.NewSource(1))
	few := func() []api.Word {
		return []api.Word{some[r.Intn(len(some))], some[r.Intn(len(some))], some[r.Intn(len(some))], num(int64(r.Intn(3)))}
	}
	for cut := range len(words) {
		if h, e := heap.Load(w.h.Used()+50, 0, words[:cut]...); e == api.OK {
			anyMemory(t, h, w.root, all(), few()...)
		}
	}
	changed, done := 0, 0
	first, _ := head.At(w.root)
	numbers := all()[17:]
	for at := range words {
		isRoot := at+2 >= first && at+2 < first+2+sound.Special
		if !isRoot && at%3 > 0 {
			continue
		}
		for i, x := range []api.Word{0, 1, 4, 9, words[at] + 2, words[at] ^ 1<<33, w.root, some[r.Intn(len(some))], some[r.Intn(len(some))], 1 << 63} {
			if !isRoot && i != at%10 {
				continue
			}
			other := slices.Clone(words)
			other[at] = x
			h, e := heap.Load(w.h.Used()+20+i, 0, other...)
			if e != api.OK {
				continue
			}
			changed++
			done += anyMemory(t, h, w.root, numbers, append(few(), x)...)
		}
	}
	if changed < 500 || done < 5000 {
		t.Errorf("the test tries too little: %d, %d", changed, done)
	}
}

// Each word of the root is another one.
func TestStrangeRoot(t *testing.T) {
	w, some := peopled(t)
	fresh := w.raw("String", "nobody has this")
	for i := range sound.Special {
		for _, x := range []api.Word{0, 1, 2, 7, w.root, w.root + 2, 1 << 40, w.classes["P"], w.nothing(), fresh} {
			c := w.copied(300)
			c.h.Put(w.root, i, x)
			anyMemory(t, c.h, w.root, all(), fresh, num(1), num(1), fresh, some[30], w.classes["P"], some[40], w.classes["String"], num(2))
		}
	}
}

// Many words are others: ways up that lead back, classes that are none.
func TestStrangeMemory(t *testing.T) {
	w, some := peopled(t)
	var everyone []api.Word
	for p := w.h.First(); p != 0; p = w.h.After(p) {
		everyone = append(everyone, p)
	}
	done := 0
	for seed := range int64(300) {
		r := rand.New(rand.NewSource(seed))
		c := w.copied(r.Intn(60))
		one := func() api.Word {
			switch r.Intn(4) {
			case 0:
				return []api.Word{0, 1, 2, 3, 7, 99, 1 << 40}[r.Intn(7)]
			case 1:
				return some[r.Intn(len(some))]
			}
			return everyone[r.Intn(len(everyone))]
		}
		for range 1 + r.Intn(30) {
			switch r.Intn(5) {
			case 0:
				c.h.SetClass(one(), one())
			case 1:
				c.h.Put(one(), r.Intn(30), one())
			default:
				c.h.Put(some[r.Intn(len(some))], sound.Super, some[r.Intn(len(some))])
			}
		}
		var few []api.Word
		for range 12 {
			few = append(few, one(), some[r.Intn(len(some))])
		}
		done += anyMemory(t, c.h, w.root, all(), few...)
	}
	if done < 3000 {
		t.Errorf("the test tries too little: %d", done)
	}
}

// A way up that leads back to itself: each call ends.
func TestRing(t *testing.T) {
	w, some := peopled(t)
	for _, ring := range [][]string{{"P"}, {"P", "Q"}, {"P", "Q", "Empty"}, {"Object", "P"}} {
		c := w.copied(500)
		for i, name := range ring {
			c.h.Put(w.classes[name], sound.Super, w.classes[ring[(i+1)%len(ring)]])
		}
		anyMemory(t, c.h, w.root, all(), append(slices.Clone(some), num(1), num(2))...)
	}
}
