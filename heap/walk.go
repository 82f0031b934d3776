package heap

import (
	"iter"
	"slices"

	"foundling/api"
	"foundling/head"
)

// objects: the place and the head of each one, in order. Cells that are no object, which Load alone meets, have a zero head, which is the last.
func (h *Heap) objects() iter.Seq2[int, head.Head] {
	return func(yield func(int, head.Head) bool) {
		for at := start; at < len(h.cells); {
			d := h.whole(at)
			if !yield(at, d) || d == (head.Head{}) {
				return
			}
			at += headCells + head.Cells(d)
		}
	}
}

// whole: the head at a place, a zero one if none stands there with all its cells.
func (h *Heap) whole(at int) head.Head {
	left := len(h.cells) - at - headCells
	if left < 0 {
		return head.Head{}
	}
	d, _ := head.Unpack(h.packed(at))
	if head.Cells(d) > left {
		return head.Head{}
	}
	return d
}

// First: the first object.
func (h *Heap) First() api.Word { return h.standing(start) }

// After: the one behind another one.
func (h *Heap) After(w api.Word) api.Word {
	at, d, e := h.object(w)
	if e != api.OK {
		return 0
	}
	return h.standing(at + headCells + head.Cells(d))
}

// standing: the pointer to what stands at a place, 0 if that is free.
func (h *Heap) standing(at int) api.Word {
	if at >= h.Used() {
		return 0
	}
	return pointer(at)
}

// Swap: two objects change places in what points to them.
func (h *Heap) Swap(a, b api.Word) api.Errno {
	if !h.Has(a) || !h.Has(b) {
		return api.ErrKind
	}
	for at, d := range h.objects() {
		swap(h.cells[at:at+1], a, b) // the class
		if d.Kind != head.Raw {
			swap(h.words(at, d), a, b)
		}
	}
	return api.OK
}

// swap: in words, each a becomes b, each b becomes a.
func swap(words []api.Word, a, b api.Word) {
	for i, w := range words {
		switch w {
		case a:
			words[i] = b
		case b:
			words[i] = a
		}
	}
}

// Words: all that are used.
func (h *Heap) Words() []api.Word {
	if h.Used() <= start {
		return nil
	}
	return slices.Clone(h.cells[start:])
}

// Load: and back.
func Load(cells int, last uint32, words ...api.Word) (*Heap, api.Errno) {
	h, e := New(cells)
	if e != api.OK {
		return nil, e
	}
	if len(words) > h.Free() {
		return nil, api.ErrFull
	}
	h.cells = append(h.cells, words...)
	h.last = last
	if last >= hashes || !h.settle() {
		return nil, api.ErrForm
	}
	return h, api.OK
}

// settle: finds where the objects stand among loaded cells; false: something there is none.
func (h *Heap) settle() bool {
	seen := map[uint32]int{} // where each hash stands
	for at, d := range h.objects() {
		if d == (head.Head{}) || !h.clean(at, d) || d.Hash > h.last {
			return false
		}
		if _, twice := seen[d.Hash]; twice {
			return false
		}
		if d.Hash != 0 {
			seen[d.Hash] = at
		}
		h.starts.Set(at, true)
	}
	return true
}
