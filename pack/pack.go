// Package pack is layer 2: see shared/doc/02-pack.md.
package pack

import (
	"math/bits"
	"slices"

	"foundling/api"
)

// wordBytes and wordBits: of a word.
const (
	wordBytes = 8
	wordBits  = 64
)

// polynomial: that of CRC-32, turned.
const polynomial = 0xEDB88320

// Put: a copy of b with the lowest n bytes of x behind it.
func Put(b []byte, x uint64, n int) []byte {
	n = byteCount(n)
	out := make([]byte, len(b), len(b)+n)
	copy(out, b)
	return appendBytes(out, x, n)
}

// Get: the number of the first n bytes.
func Get(b []byte, n int) (uint64, api.Errno) {
	n = byteCount(n)
	if len(b) < n {
		return 0, api.ErrEnd
	}
	return number(b[:n]), api.OK
}

// byteCount: brought among those that a word has.
func byteCount(n int) int { return min(max(n, 0), wordBytes) }

// appendBytes: the lowest n bytes of x, the lowest first.
func appendBytes(b []byte, x uint64, n int) []byte {
	for i := range n {
		b = append(b, byte(x>>(8*i)))
	}
	return b
}

// number: of at most 8 bytes, the lowest first.
func number(b []byte) uint64 {
	var x uint64
	for i := range len(b) {
		x |= uint64(b[i]) << (8 * i)
	}
	return x
}

// Words: each as 8 bytes.
func Words(list ...uint64) []byte {
	out := make([]byte, 0, wordBytes*len(list))
	for i := range len(list) {
		out = appendBytes(out, list[i], wordBytes)
	}
	return out
}

// Unwords: and back.
func Unwords(b []byte) ([]uint64, api.Errno) {
	if len(b)%wordBytes != 0 {
		return nil, api.ErrSize
	}
	out := make([]uint64, len(b)/wordBytes)
	for i := range len(out) {
		out[i] = number(b[wordBytes*i:][:wordBytes])
	}
	return out, api.OK
}

// Sum: a checksum piece by piece. It keeps the value with its bits turned over, as it is told: so the zero Sum is that of nothing.
type Sum struct{ value uint32 }

// Add: more bytes.
func (s *Sum) Add(b ...byte) {
	sum := ^s.value
	for i := range len(b) {
		sum ^= uint32(b[i])
		for range 8 {
			fell := sum & 1
			sum = sum>>1 ^ polynomial&-fell
		}
	}
	s.value = ^sum
}

// Value: of all that was added.
func (s *Sum) Value() uint32 { return s.value }

// Crc: of bytes.
func Crc(b []byte) uint32 {
	var s Sum
	s.Add(b...)
	return s.Value()
}

// Bits: a set of numbers from 0 to size - 1. A nil one counts as the zero one, as a call that answers an error has a nil one beside it.
type Bits struct {
	size  int
	words []uint64
}

// NewBits: an empty set.
func NewBits(n int) *Bits {
	n = min(max(n, 0), api.MaxHeap)
	return &Bits{size: n, words: make([]uint64, (n+wordBits-1)/wordBits)}
}

// Size: how many numbers there may be in it.
func (s *Bits) Size() int {
	if s == nil {
		return 0
	}
	return s.size
}

// list: its words.
func (s *Bits) list() []uint64 {
	if s == nil {
		return nil
	}
	return s.words
}

// may: can i be in it?
func (s *Bits) may(i int) bool { return i >= 0 && i < s.Size() }

// Set: i is in it, or isn't; was it another way ahead?
func (s *Bits) Set(i int, on bool) bool {
	if !s.may(i) || s.Has(i) == on {
		return false
	}
	s.words[i/wordBits] ^= 1 << (i % wordBits)
	return true
}

// Has: is i in it?
func (s *Bits) Has(i int) bool {
	return s.may(i) && s.words[i/wordBits]>>(i%wordBits)&1 == 1
}

// Next: the least number of it that is i or greater; -1: there is none.
func (s *Bits) Next(i int) int {
	i = max(i, 0)
	if !s.may(i) {
		return -1
	}
	at := i / wordBits
	word := s.words[at] &^ below(i)
	for word == 0 {
		at++
		if at == len(s.words) {
			return -1
		}
		word = s.words[at]
	}
	return at*wordBits + bits.TrailingZeros64(word)
}

// Below: how many numbers of it are below i.
func (s *Bits) Below(i int) int {
	i = min(max(i, 0), s.Size())
	list := s.list()
	count := 0
	for at := range i / wordBits {
		count += bits.OnesCount64(list[at])
	}
	if i%wordBits != 0 {
		count += bits.OnesCount64(list[i/wordBits] & below(i))
	}
	return count
}

// below: the bits that stand below that of i, in its word.
func below(i int) uint64 { return 1<<(i%wordBits) - 1 }

// Clone: another one like it.
func (s *Bits) Clone() *Bits {
	return &Bits{size: s.Size(), words: slices.Clone(s.list())}
}

// Same: have they the same size and numbers?
func (s *Bits) Same(t *Bits) bool {
	return s.Size() == t.Size() && slices.Equal(s.list(), t.list())
}
