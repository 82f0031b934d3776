package frame

import (
	"math"
	"math/rand"
	"slices"
	"testing"

	"foundling/api"
	"foundling/boot"
	"foundling/head"
	"foundling/heap"
	"foundling/sound"
)

// tried: does each call end, and has nothing changed where it told an error?
func tried(t *testing.T, h *heap.Heap, root api.Word, n int, xs ...api.Word) int {
	t.Helper()
	opened := 0
	before := h.Clone()
	for i, x := range xs {
		y := xs[(i+1)%len(xs)]
		list := Chain(h, root, x)
		f, e := Open(h, root, x)
		if (f == nil) != (e != api.OK) || e != api.OK && e != api.ErrKind || (f == nil) != (len(list) == 0) || len(list) > h.Cells() {
			t.Fatalf("P20.4: Open, Chain in any memory: %v, %d, %d", f, e, len(list))
		}
		if !h.Clone().Same(before) {
			t.Fatalf("P20.5: Open or Chain have changed memory")
		}
		if f != nil {
			opened++
		}
		for i, call := range calls(f, n, y) {
			before := h.Clone()
			w, e := call()
			if e == api.OK && (i != blockCall || h.Has(w)) {
				continue
			}
			if e == api.OK || w != 0 || !h.Clone().Same(before) {
				t.Fatalf("P20.5: beside the error %d is %x, or memory has changed", e, w)
			}
		}
		for _, args := range [][]api.Word{nil, {y}, {y, x}} {
			before := h.Clone()
			w, e := Enter(h, root, x, y, args...)
			if e == api.OK && !h.Has(w) || e != api.OK && (w != 0 || !h.Clone().Same(before)) {
				t.Fatalf("P20.3: Enter in any memory: %x, %d", w, e)
			}
		}
		before = h.Clone()
	}
	return opened
}

// blockCall: the number of the one that makes an object.
const blockCall = 5

// calls: of a frame, one behind the other.
func calls(f *Frame, n int, x api.Word) []func() (api.Word, api.Errno) {
	alone := func(e api.Errno) (api.Word, api.Errno) { return 0, e }
	return []func() (api.Word, api.Errno){
		func() (api.Word, api.Errno) { return f.Peek(n) },
		func() (api.Word, api.Errno) { return f.Temp(n) },
		func() (api.Word, api.Errno) { return f.Field(n) },
		func() (api.Word, api.Errno) { return f.Literal(n) },
		func() (api.Word, api.Errno) {
			i, to, e := f.Next()
			return api.Word(i.Op | i.A | i.B | to), e
		},
		func() (api.Word, api.Errno) { return f.Block(n, n) },
		func() (api.Word, api.Errno) { return f.Home().Temp(n) },
		func() (api.Word, api.Errno) { return alone(f.Push(x)) },
		func() (api.Word, api.Errno) { return alone(f.SetTemp(n, x)) },
		func() (api.Word, api.Errno) { return alone(f.SetField(n, x)) },
		func() (api.Word, api.Errno) { return alone(f.Go(n)) },
		func() (api.Word, api.Errno) { return alone(f.Drop(n)) },
		func() (api.Word, api.Errno) { return f.Pop() },
		func() (api.Word, api.Errno) { return f.Home().Pop() },
		func() (api.Word, api.Errno) { return f.Word(n), api.OK },
		func() (api.Word, api.Errno) { return api.Word(f.Depth()), api.OK },
		func() (api.Word, api.Errno) { f.Leave(); return 0, api.OK },
		func() (api.Word, api.Errno) { return alone(f.SetWord(n, x)) },
	}
}

// Memory that is empty, or none.
func TestNoMemory(t *testing.T) {
	empty, _ := heap.New(16)
	full, _ := heap.New(100)
	full.Alloc(4, 1, 30, 4)
	full.Alloc(4, 2, 100, 4)
	full.Alloc(2, 0, 3, 66)
	for _, h := range []*heap.Heap{nil, {}, empty, full} {
		for _, root := range []api.Word{0, 1, 2, 4, 68, 98, 1 << 63, math.MaxUint64} {
			for _, n := range []int{-1, 0, 1, 3, math.MaxInt} {
				tried(t, h, root, n, 0, 1, 2, 3, 4, 66, 68, 98, 1<<30, 1<<63, math.MaxUint64)
			}
		}
	}
}

// peopled: memory with contexts and blocks, and the words of some of them.
func peopled(t *testing.T) (*world, []api.Word) {
	w := newWorld(t)
	outer := w.context(w.like(2, 3, []api.Word{w.root}, 4, 5, 18), w.instance(), w.nothing())
	inner := w.inner(outer, outer, 3)
	block, _ := w.open(inner).Block(1, 1)
	return w, []api.Word{outer, inner, block, w.word(outer, boot.Receiver), w.nothing()}
}

// Cut behind each object, and changed word by word.
func TestAnyMemory(t *testing.T) {
	w, some := peopled(t)
	words := w.h.Words()
	for cut := range len(words) {
		if h, e := heap.Load(w.h.Used()+50, 0, words[:cut]...); e == api.OK {
			tried(t, h, w.root, 1, some...)
		}
	}
	loaded, opened := 0, 0
	first, _ := head.At(w.root)
	for at := range words {
		// All words of the root, and of what contexts are made of; of the others some.
		if at%5 > 0 && at < len(words)-80 && (at < first || at > first+sound.Special) {
			continue
		}
		for i, x := range []api.Word{0, 1, 4, 9, words[at] + 2, words[at] ^ 1<<33, w.root, some[0], some[1], some[2], 1 << 63} {
			other := slices.Clone(words)
			other[at] = x
			h, e := heap.Load(w.h.Used()+20+i, 0, other...)
			if e != api.OK {
				continue
			}
			loaded++
			opened += tried(t, h, w.root, i%4-1, some...)
			tried(t, h, x, i%4, some...)
		}
	}
	if loaded < 2000 || opened < 2000 {
		t.Errorf("the test tries too little: %d, %d", loaded, opened)
	}
}

// Many words are others.
func TestStrangeMemory(t *testing.T) {
	w, some := peopled(t)
	opened := 0
	for seed := range int64(1500) {
		r := rand.New(rand.NewSource(seed))
		h, _ := heap.Load(w.h.Used()+r.Intn(60), 0, w.h.Words()...)
		var all []api.Word
		for p := h.First(); p != 0; p = h.After(p) {
			all = append(all, p)
		}
		one := func() api.Word {
			switch r.Intn(4) {
			case 0:
				return []api.Word{0, 1, 2, 3, 7, 99, 1 << 40}[r.Intn(7)]
			case 1:
				return some[r.Intn(len(some))]
			}
			return all[r.Intn(len(all))]
		}
		for range 1 + r.Intn(12) {
			switch r.Intn(5) {
			case 0:
				h.SetClass(one(), one())
			case 1:
				h.Put(one(), r.Intn(30), one())
			default:
				h.Put(some[r.Intn(3)], r.Intn(9), one())
			}
		}
		opened += tried(t, h, w.root, r.Intn(8)-1, append(slices.Clone(some), one(), one())...)
	}
	if opened < 1000 {
		t.Errorf("the test tries too little: %d", opened)
	}
}
