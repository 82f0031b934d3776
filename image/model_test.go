package image

import (
	"encoding/binary"
	"math/rand"
	"slices"
	"testing"

	"foundling/api"
	"foundling/head"
	"foundling/heap"
)

// closed: told from the words of memory alone: the places of all objects stand in a list, and all that leads is asked whether it is there.
func closed(h *heap.Heap) bool {
	words := h.Words()
	var there, asked []api.Word
	for at := 0; at < len(words); {
		there = append(there, api.Word(2*at+4))
		asked = append(asked, words[at])
		size, raw := int(words[at+1]%(1<<32)), words[at+1]>>32%16 == 2
		at += 2
		if raw {
			at += (size + 7) / 8
			continue
		}
		for _, x := range words[at:][:size] {
			if x != 0 && x%2 == 0 {
				asked = append(asked, x)
			}
		}
		at += size
	}
	for _, x := range asked {
		if !slices.Contains(there, x) {
			return false
		}
	}
	return true
}

// chance: memory in which now and then something is loose.
func chance(t *testing.T, seed int64) *heap.Heap {
	t.Helper()
	random := rand.New(rand.NewSource(seed))
	h := fresh(t, 16+random.Intn(100))
	var all []api.Word
	for {
		w, e := h.Alloc(4, random.Intn(3), random.Intn(6), 0)
		if e != api.OK || random.Intn(30) == 0 {
			break
		}
		all = append(all, w)
	}
	all = append(all, 4)
	pointer := func() api.Word {
		if random.Intn(60) == 0 {
			return api.Word(2 + 2*random.Intn(2*h.Cells()))
		}
		return all[random.Intn(len(all))]
	}
	for _, w := range all {
		d, _ := h.Head(w)
		h.SetClass(w, pointer())
		if random.Intn(3) == 0 {
			h.Tag(w)
		}
		h.SetMark(w, random.Intn(4) == 0)
		for i := range d.Size {
			h.Put(w, i, []api.Word{0, 1, pointer() + 1, pointer(), pointer()}[random.Intn(5)])
			h.PutByte(w, i, byte(random.Intn(256)))
		}
	}
	return h
}

// Whatever is in memory: Closed is as the plain model has it, and an image undoes itself, or is told.
func TestByChance(t *testing.T) {
	tried := [2]int{} // closed, loose
	for seed := range 3000 {
		h := chance(t, int64(seed))
		was := h.Clone()
		want := closed(h)
		if Closed(h) != want {
			t.Fatalf("P7.4: seed %d: Closed = %t, want %t: %x", seed, !want, want, h.Words())
		}
		if h.First() == 0 {
			continue
		}
		b := encoded(t, h, h.First())
		if want {
			tried[0]++
			checkBack(t, b, h.Cells(), h, 4)
			checkBack(t, b, max(16, h.Used()), h, 4)
		} else {
			tried[1]++
			checkError(t, "P7.2", b, h.Cells(), api.ErrKind)
		}
		if !h.Same(was) {
			t.Fatalf("P7.5: seed %d: memory has changed", seed)
		}
	}
	if slices.Min(tried[:]) < 300 {
		t.Errorf("P7.4: the test tries too little: %v", tried)
	}
}

// Any bytes: images of which some parts are other ones, with the checksum that they ask for: an image, of a heap that is closed, or an error and nothing else.
func TestAnyBytes(t *testing.T) {
	random := rand.New(rand.NewSource(7))
	tried := map[api.Errno]int{}
	for seed := range 6000 {
		h := chance(t, int64(seed))
		if h.First() == 0 {
			continue
		}
		b := changed(random, encoded(t, h, h.First()))
		cells := []int{15, 16, h.Used() - 1, h.Used(), h.Cells(), 1000}[random.Intn(6)]
		g, root, e := Decode(b, cells)
		tried[e]++
		if e != api.OK && (g != nil || root != 0) {
			t.Fatalf("P7.2: beside the error %d: %t, %x", e, g != nil, root)
		}
		if e == api.OK {
			if !closed(g) || !g.Has(root) || g.Cells() != cells {
				t.Fatalf("P7.2: of %x: %x, %x", b, root, g.Words())
			}
			if again := encoded(t, g, root); !slices.Equal(again, b) {
				t.Fatalf("P7.1: Encode of Decode: %x, want %x", again, b)
			}
		}
	}
	for _, e := range []api.Errno{api.OK, api.ErrSize, api.ErrForm, api.ErrEnd, api.ErrSum, api.ErrFull, api.ErrKind} {
		if tried[e] < 30 {
			t.Errorf("P7.2: the test tries too little: %v", tried)
		}
	}
}

// changed: some of the words of an image are other ones, or some bytes; most have the checksum that they ask for.
func changed(random *rand.Rand, b []byte) []byte {
	for range random.Intn(3) {
		switch at := 8 + 8*random.Intn((len(b)-12)/8); random.Intn(6) {
		case 0:
			b[random.Intn(len(b))] = byte(random.Intn(256))
		case 1:
			binary.LittleEndian.PutUint64(b[at:], random.Uint64()>>random.Intn(64))
		case 2:
			x := binary.LittleEndian.Uint64(b[at:])
			binary.LittleEndian.PutUint64(b[at:], x^1<<random.Intn(64))
		case 3:
			from := 8 + 8*random.Intn((len(b)-12)/8)
			copy(b[at:][:8], b[from:])
		case 4:
			b = append(b[:at:at], b[at+random.Intn(9):]...)
			if len(b) < 36 {
				return b
			}
		}
	}
	if random.Intn(10) == 0 {
		return b
	}
	return summed(b)
}

// P7.4

func TestClosed(t *testing.T) {
	for _, c := range []struct {
		want  bool
		words []api.Word
	}{
		{true, nil}, {true, []api.Word{4, 0}}, {false, []api.Word{6, 0}}, {false, []api.Word{4, 0, 8, 1, 0, 6, 0}}, {false, []api.Word{4, 0, 10, 0}}, {true, []api.Word{8, 0, 4, 0}}, {false, []api.Word{2, 0}}, {false, []api.Word{1 << 25, 0}}, {false, []api.Word{1 << 63, 0}},
		{true, []api.Word{4, 1, 0}}, {true, []api.Word{4, 1, 4}}, {true, []api.Word{4, 1, 1}}, {true, []api.Word{4, 1, 7}}, {false, []api.Word{4, 1, 2}}, {false, []api.Word{4, 1, 6}}, {false, []api.Word{4, 1, 1 << 40}}, {false, []api.Word{4, 1, 4 | 1<<32}},
		{true, []api.Word{4, 1 | 1<<32, 0}}, {false, []api.Word{4, 1 | 1<<32, 6}}, {false, []api.Word{4, 3 | 1<<32, 0, 5, 6}}, {true, []api.Word{4, 3 | 1<<32, 0, 5, 4}},
		{true, []api.Word{4, 8 | 2<<32, 6}}, {false, []api.Word{6, 8 | 2<<32, 4}}, {true, []api.Word{4, 16 | 2<<32, 6, 1 << 50}}, {false, []api.Word{4, 8 | 2<<32, 6, 4, 1, 6}},
	} {
		h, e := heap.Load(30, 0, c.words...)
		if e != api.OK {
			t.Fatalf("heap.Load of %x: %d", c.words, e)
		}
		before := h.Clone()
		if got := Closed(h); got != c.want || !h.Same(before) {
			t.Errorf("P7.4: Closed of %x = %t", c.words, got)
		}
	}
	if !Closed(nil) || !Closed(fresh(t, 16)) {
		t.Errorf("P7.4: Closed of an empty heap")
	}
	var zero heap.Heap
	if !Closed(&zero) {
		t.Errorf("P7.4: Closed of the zero heap")
	}
}

// P7.5: what was decoded has nothing of the bytes, and what was encoded nothing of the heap.
func TestMemory(t *testing.T) {
	h, root := pair(t)
	b := encoded(t, h, root)
	g, _, e := Decode(slices.Grow(b, 100), 30)
	if e != api.OK || !g.Same(h) {
		t.Fatalf("P7.5: Decode: %d", e)
	}
	was := slices.Clone(b)
	clear(b)
	if !g.Same(h) {
		t.Errorf("P7.5: with its bytes the heap changes")
	}
	b = encoded(t, h, root)
	h.Put(4, 0, 1)
	object(t, h, 4, head.Slots, 1)
	if !slices.Equal(b, was) || g.Same(h) {
		t.Errorf("P7.5: with its heap the image changes")
	}
	spare := slices.Repeat([]byte{9}, len(b)+20)
	copy(spare, b)
	if _, _, e := Decode(spare[:len(b)], 30); e != api.OK || spare[len(b)] != 9 || !slices.Equal(spare[:len(b)], b) {
		t.Errorf("P7.5: Decode changes the bytes' spare room")
	}
}
