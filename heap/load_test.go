package heap

import (
	"math"
	"math/rand"
	"slices"
	"testing"

	"foundling/api"
	"foundling/head"
)

// P4.4

func TestLoadWords(t *testing.T) {
	for seed := range 20 {
		r := chance(t, int64(seed), 70)
		for range 60 {
			r.step()
		}
		g := load(t, 70, r.h.Last(), r.h.Words()...)
		check(t, g, r.m)
		if !g.Same(r.h) {
			t.Errorf("P4.4: what was loaded is another heap")
		}
		next := hand{t, g, r.m, r.random}
		for range 20 {
			next.step()
		}
		check(t, g, r.m)
		small := max(16, r.h.Used())
		if e := fits(small, r.h); e != api.OK {
			t.Errorf("P4.4: Load with just as many cells: %d", e)
		}
		if e := fits(r.h.Used()-1, r.h); r.h.Used() > 16 && e != api.ErrFull {
			t.Errorf("P4.4: Load with one cell too few: %d", e)
		}
	}
}

// fits: what Load tells of a heap's words in so many cells.
func fits(cells int, h *Heap) api.Errno {
	_, e := Load(cells, h.Last(), h.Words()...)
	return e
}

func TestLoadNothing(t *testing.T) {
	for _, last := range []uint32{0, 5, 1<<24 - 1} {
		h := load(t, 16, last)
		check(t, h, &model{cells: 16, last: last})
		if w := object(t, h, 2, head.Slots, 12, 3); w != 4 || h.Free() != 0 {
			t.Errorf("P4.4: Alloc behind Load: %x, Free %d", w, h.Free())
		}
	}
}

// Its first errors: cells of no heap, then too few cells, then the form.
func TestLoadOrder(t *testing.T) {
	bad := slices.Repeat([]api.Word{1}, 15)
	for _, c := range []struct {
		cells int
		last  uint32
		words []api.Word
		e     api.Errno
	}{
		{15, 1 << 24, bad, api.ErrSize}, {0, 0, nil, api.ErrSize}, {-1, 0, nil, api.ErrSize}, {math.MinInt, 0, nil, api.ErrSize}, {api.MaxHeap + 1, 0, nil, api.ErrSize}, {math.MaxInt, 0, bad, api.ErrSize},
		{16, 1 << 24, bad, api.ErrFull}, {16, 0, bad, api.ErrFull}, {16, 0, slices.Repeat([]api.Word{4, 0}, 8), api.ErrFull},
		{17, 0, bad, api.ErrForm}, {16, 0, bad[:14], api.ErrForm}, {16, 0, slices.Repeat([]api.Word{4, 0}, 7), api.OK}, {17, 0, slices.Repeat([]api.Word{4, 0}, 7), api.OK}, {api.MaxHeap, 0, []api.Word{4, 0}, api.OK},
		{16, 1 << 24, nil, api.ErrForm}, {16, math.MaxUint32, nil, api.ErrForm}, {16, 1 << 24, []api.Word{4, 0}, api.ErrForm}, {16, 1<<24 - 1, []api.Word{4, 0}, api.OK},
	} {
		h, e := Load(c.cells, c.last, c.words...)
		if e != c.e || (h == nil) != (e != api.OK) {
			t.Errorf("P4.4: Load(%d, %d, %x): %d, want %d", c.cells, c.last, c.words, e, c.e)
		}
	}
}

func TestLoadForm(t *testing.T) {
	const raw = 2 << 32
	for _, c := range []struct {
		last  uint32
		words []api.Word
		ok    bool
	}{
		{0, []api.Word{4}, false}, {0, []api.Word{4, 0}, true}, {0, []api.Word{4, 0, 4}, false}, {0, []api.Word{4, 0, 4, 0}, true}, {0, []api.Word{4, 0, 0}, false}, {0, []api.Word{0, 0}, false}, {0, []api.Word{0}, false},
		{0, []api.Word{5, 0}, false}, {0, []api.Word{4, 1}, false}, {0, []api.Word{4, 1, 0}, true}, {0, []api.Word{4, 1, 0, 4}, false}, {0, []api.Word{4, 2, 0}, false}, {0, []api.Word{4, 2, 4, 0}, true}, {0, []api.Word{4, 2, 4, 0, 4, 1}, false}, {0, []api.Word{4, 2, 4, 0, 4, 1, 1}, true},
		{0, []api.Word{4, api.MaxObject, 7}, false}, {0, []api.Word{4, api.MaxObject + 1, 7}, false}, {0, []api.Word{4, 1<<32 - 1, 7}, false},
		{0, []api.Word{4, 3 << 32}, false}, {0, []api.Word{4, 15 << 32}, false}, {0, []api.Word{4, 1 << 36}, true}, {0, []api.Word{4, 1 << 37}, false}, {0, []api.Word{4, 1 << 39}, false}, {0, []api.Word{math.MaxUint64 - 1, 1, math.MaxUint64}, true},
		{0, []api.Word{4, raw}, true}, {0, []api.Word{4, raw + 1}, false}, {0, []api.Word{4, raw + 1, 255}, true}, {0, []api.Word{4, raw + 1, 256}, false}, {0, []api.Word{4, raw + 1, 1 << 63}, false}, {0, []api.Word{4, raw + 7, 1<<56 - 1}, true}, {0, []api.Word{4, raw + 7, 1 << 56}, false}, {0, []api.Word{4, raw + 8, math.MaxUint64}, true}, {0, []api.Word{4, raw + 9, math.MaxUint64}, false}, {0, []api.Word{4, raw + 9, math.MaxUint64, 255}, true}, {0, []api.Word{4, raw + 9, 0, 256}, false}, {0, []api.Word{4, raw + 9, 0, 0, 0}, false},
		{0, []api.Word{4, 1 << 40}, false}, {1, []api.Word{4, 1 << 40}, true}, {1, []api.Word{4, 2 << 40}, false}, {9, []api.Word{4, 9 << 40}, true}, {9, []api.Word{4, 10 << 40}, false}, {1<<24 - 1, []api.Word{4, 0xFFFFFF << 40}, true}, {1<<24 - 2, []api.Word{4, 0xFFFFFF << 40}, false},
		{9, []api.Word{4, 7 << 40, 4, 7 << 40}, false}, {9, []api.Word{4, 7 << 40, 4, 0, 4, 7 << 40}, false}, {9, []api.Word{4, 7 << 40, 4, 6 << 40, 4, 9 << 40}, true}, {9, []api.Word{4, 0, 4, 0, 4, 1 << 40}, true},
	} {
		h, e := Load(30, c.last, c.words...)
		if c.ok {
			if e != api.OK || !slices.Equal(h.Words(), c.words) || h.Last() != c.last || h.Cells() != 30 {
				t.Errorf("P4.4: Load(%d, %x): %d", c.last, c.words, e)
			}
		} else if e != api.ErrForm || h != nil {
			t.Errorf("P4.4: Load(%d, %x): %d", c.last, c.words, e)
		}
	}
}

// formed: are these objects one behind the other? By a recursion over what is left of them.
func formed(last api.Word, seen []api.Word, words []api.Word) bool {
	if last >= 1<<24 {
		return false
	}
	if len(words) == 0 {
		return true
	}
	if len(words) == 1 || words[0] == 0 || words[0]%2 == 1 {
		return false
	}
	size, kind, odd, hash := words[1]%(1<<32), words[1]>>32%16, words[1]>>37%8, words[1]>>40
	if size > api.MaxObject || kind > 2 || odd != 0 || hash > last || hash != 0 && slices.Contains(seen, hash) {
		return false
	}
	cells := size
	if kind == 2 {
		cells = (size + 7) / 8
	}
	if cells > api.Word(len(words)-2) {
		return false
	}
	if kind == 2 && size%8 != 0 && words[1+cells]>>(size%8*8) != 0 {
		return false
	}
	return formed(last, append(seen, hash), words[2+cells:])
}

// changed: one thing of some words is another one.
func changed(random *rand.Rand, words []api.Word) []api.Word {
	out := slices.Clone(words)
	if len(out) == 0 {
		return []api.Word{4}
	}
	i := random.Intn(len(out))
	switch random.Intn(5) {
	case 0:
		return out[:i]
	case 1:
		return slices.Insert(out, i, api.Word(random.Intn(9)))
	case 2:
		out[i] = out[random.Intn(len(out))]
	case 3:
		out[i] = out[i]&^(1<<40-1<<32) | api.Word(random.Intn(4))<<32
	default:
		out[i] ^= 1 << random.Intn(64)
	}
	return out
}

func TestLoadChanged(t *testing.T) {
	random := rand.New(rand.NewSource(4))
	count := [2]int{}
	for seed := range 40 {
		r := chance(t, int64(seed), 50)
		for range 60 {
			r.step()
		}
		for range 300 {
			words, last := changed(random, r.h.Words()), r.h.Last()
			if random.Intn(9) == 0 {
				last = []uint32{0, last - 1, 1 << 24, 1<<24 - 1}[random.Intn(4)]
			}
			h, e := Load(60, last, words...)
			if !formed(api.Word(last), nil, words) {
				count[0]++
				if e != api.ErrForm || h != nil {
					t.Fatalf("P4.4: Load(%d, %x): %d", last, words, e)
				}
				continue
			}
			count[1]++
			if e != api.OK || !slices.Equal(h.Words(), words) || h.Last() != last {
				t.Fatalf("P4.4: Load(%d, %x): %d", last, words, e)
			}
		}
	}
	if min(count[0], count[1]) < 1000 {
		t.Errorf("P4.4: the test tries too little: %v", count)
	}
}
