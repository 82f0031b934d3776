package heap

import (
	"foundling/api"
	"foundling/head"
)

// The bytes of a Raw object stand in its words as in those that package pack makes of bytes: the lowest first.
const (
	wordBytes = 8
	byteBits  = 8
)

// byteAt: the cell in which an object's byte stands, and how many bits are below it there.
func (h *Heap) byteAt(w api.Word, i int) (*api.Word, int, api.Errno) {
	at, d, e := h.object(w)
	if e != api.OK || d.Kind != head.Raw {
		return nil, 0, api.ErrKind
	}
	if i < 0 || i >= d.Size {
		return nil, 0, api.ErrNone
	}
	return &h.cells[at+headCells+i/wordBytes], i % wordBytes * byteBits, api.OK
}

// Byte: a byte of it.
func (h *Heap) Byte(w api.Word, i int) (byte, api.Errno) {
	cell, below, e := h.byteAt(w, i)
	if e != api.OK {
		return 0, e
	}
	return byte(*cell >> below), api.OK
}

// PutByte: another byte.
func (h *Heap) PutByte(w api.Word, i int, b byte) api.Errno {
	cell, below, e := h.byteAt(w, i)
	if e == api.OK {
		*cell = *cell&^(0xFF<<below) | api.Word(b)<<below
	}
	return e
}

// Bytes: all of them.
func (h *Heap) Bytes(w api.Word) ([]byte, api.Errno) {
	at, d, e := h.object(w)
	if e != api.OK || d.Kind != head.Raw {
		return nil, api.ErrKind
	}
	words := h.words(at, d)
	out := make([]byte, d.Size)
	for i := range out {
		out[i] = byte(words[i/wordBytes] >> (i % wordBytes * byteBits))
	}
	return out, api.OK
}

// clean: are the bytes behind a Raw object's last one 0?
func (h *Heap) clean(at int, d head.Head) bool {
	over := d.Size % wordBytes
	if d.Kind != head.Raw || over == 0 {
		return true
	}
	words := h.words(at, d)
	return words[len(words)-1]>>(over*byteBits) == 0
}
