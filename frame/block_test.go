package frame

import (
	"math"
	"slices"
	"testing"

	"foundling/api"
	"foundling/boot"
	"foundling/head"
	"foundling/sound"
)

// P20.3

// block: what Block has to make.
func (w *world) block(p, home api.Word, start, count int) api.Word {
	w.t.Helper()
	before := w.h.Clone()
	b, e := w.open(p).Block(start, count)
	if e != api.OK {
		w.t.Fatalf("P20.3: Block(%d, %d): %d", start, count, e)
	}
	w.grown("Block", before, b, head.Head{Class: w.classes["Block"], Kind: head.Fields}, home, num(int64(start)), num(int64(count)))
	return b
}

func TestBlock(t *testing.T) {
	w := newWorld(t)
	outer := w.context(w.method("foo:bar:"), w.instance(), w.nothing())
	inner := w.inner(outer, outer, 3)
	for _, p := range []api.Word{outer, inner, w.inner(outer, inner, 1)} {
		for _, start := range []int{0, 1, 2, 100, 70000, 1<<62 - 1} {
			for _, count := range []int{0, 1, 12, 255, 1 << 40, 1<<62 - 1} {
				w.block(p, outer, start, count)
			}
		}
		before := w.h.Clone()
		for _, n := range [][2]int{{-1, 0}, {0, -1}, {-1, -1}, {math.MinInt, 5}, {5, math.MinInt}, {-1, math.MaxInt}, {math.MaxInt, -1}} {
			if b, e := w.open(p).Block(n[0], n[1]); b != 0 || e != api.ErrArg {
				t.Errorf("P20.3: Block%v: %x, %d", n, b, e)
			}
		}
		for _, n := range [][2]int{{math.MaxInt, 0}, {0, math.MaxInt}, {1 << 62, 0}, {0, 1 << 62}} { // no numbers of words
			if b, e := w.open(p).Block(n[0], n[1]); b != 0 || e != api.ErrOver {
				t.Errorf("P20.3: Block%v: %x, %d", n, b, e)
			}
		}
		w.same("Block of what isn't", before)
	}
	w.sound("Block")
}

// Just enough room, and one cell less.
func TestBlockRoom(t *testing.T) {
	w := newWorld(t)
	outer := w.context(w.method("foo:bar:"), w.instance(), w.nothing())
	inner := w.inner(outer, outer, 3)
	for free := range 9 {
		for _, p := range []api.Word{outer, inner} {
			w.left(free)
			before := w.h.Clone()
			if free >= 5 {
				w.block(p, outer, 3, 1)
				if w.h.Free() != free-5 {
					t.Errorf("P20.3: of %d cells %d are left", free, w.h.Free())
				}
				w.h = before
				continue
			}
			for _, n := range [][2]int{{0, 0}, {3, 1}, {math.MaxInt, 1}} {
				if b, e := w.open(p).Block(n[0], n[1]); b != 0 || e != api.ErrFull {
					t.Errorf("P20.3: Block%v in %d cells: %x, %d", n, free, b, e)
				}
			}
			if b, e := w.open(p).Block(-1, 0); b != 0 || e != api.ErrArg {
				t.Errorf("P20.3: Block(-1, 0) in %d cells: %x, %d", free, b, e)
			}
			w.same("Block without room", before)
		}
	}
}

// entered: what Enter has to make of a block whose home is this one.
func (w *world) entered(block, home, sender api.Word, args ...api.Word) api.Word {
	w.t.Helper()
	before := w.h.Clone()
	given := slices.Clone(args)
	c, e := Enter(w.h, w.root, block, sender, args...)
	if e != api.OK {
		w.t.Fatalf("P20.3: Enter with %d args: %d", len(args), e)
	}
	_, stack := sizes(w.word(w.word(home, 3), 0))
	words := []api.Word{sender, w.word(block, 1), num(int64(len(args))), w.word(home, 3), w.word(home, 4), home}
	words = append(words, args...)
	words = append(words, slices.Repeat([]api.Word{num(0)}, max(0, stack-len(args)))...)
	w.grown("Enter", before, c, head.Head{Class: w.classes["Context"], Kind: head.Slots}, words...)
	if !slices.Equal(args, given) {
		w.t.Errorf("P20.3: Enter has changed its args: %x", args)
	}
	return c
}

// args: so many.
func args(n int) []api.Word {
	var out []api.Word
	for i := range n {
		out = append(out, num(int64(50+i)))
	}
	return out
}

// As many args as it asks for, one more, one fewer; fewer and more than the method's Stack.
func TestEnter(t *testing.T) {
	w := newWorld(t)
	contexts := []api.Word{
		w.context(w.method("foo:bar:"), w.instance(), w.nothing()), w.context(w.method("wide"), num(3), w.root),
		w.context(w.like(0, 1, nil), w.nothing(), w.nothing()), w.context(w.like(5, 2, nil), w.nothing(), w.nothing()), w.context(w.like(2, 200, nil), w.nothing(), w.nothing()),
		w.context(w.like(2, 0, nil), w.nothing(), w.nothing()),
	}
	for _, home := range contexts {
		w.open(home).SetTemp(0, num(12))
		for _, count := range []int{0, 1, 2, 3, 4, 12, 255} {
			for _, start := range []int{0, 1, 9, 70000} {
				block := w.block(home, home, start, count)
				c := w.entered(block, home, home, args(count)...)
				w.entered(block, home, w.nothing(), args(count)...)
				if d, _ := w.h.Head(c); d.Size > 6 {
					f := w.open(c)
					if f.Home().Context() != home || f.Depth() != count || f.Word(boot.Pc) != num(int64(start)) {
						t.Errorf("P20.3: a block's context has the home %x, %d words, the Pc %x", f.Home().Context(), f.Depth(), f.Word(boot.Pc))
					}
				}
				before := w.h.Clone()
				for _, n := range []int{count - 1, count + 1, count + 2, 0, 300} {
					if n < 0 || n == count {
						continue
					}
					if c, e := Enter(w.h, w.root, block, home, args(n)...); c != 0 || e != api.ErrArg {
						t.Errorf("P20.3: Enter with %d args of %d: %x, %d", n, count, c, e)
					}
				}
				w.same("Enter with another count of args", before)
				w.sound("Enter")
				if w.h.Free() < 5000 {
					w.left(20000)
				}
			}
		}
	}
}

// Any sender, any args, any start that is a number.
func TestEnterWords(t *testing.T) {
	w := newWorld(t)
	home := w.context(w.method("foo:bar:"), w.instance(), w.nothing())
	odd := w.odd()
	for _, name := range keys(odd) {
		w.entered(w.block(home, home, 3, 2), home, odd[name], odd[name], 7)
		if isNumber(odd[name]) {
			w.entered(w.alloc("Block", head.Fields, home, odd[name], num(1)), home, home, odd[name])
		}
	}
	// The home is left, or a block's context itself: it is what the block says.
	w.open(home).Leave()
	w.entered(w.block(home, home, 3, 0), home, home)
	inner := w.inner(home, home, 2)
	w.entered(w.alloc("Block", head.Fields, inner, num(1), num(1)), inner, home, num(5))
	w.entered(w.alloc("Block", head.Slots, home, num(1), num(1)), home, home, num(5)) // an object of words is one of its kind
}

func TestEnterNone(t *testing.T) {
	w := newWorld(t)
	home := w.context(w.method("foo:bar:"), w.instance(), w.nothing())
	odd := w.odd()
	small := w.alloc("Context", head.Slots, w.list(home)[:6]...)
	bad := w.context(w.method("foo:bar:"), w.instance(), w.nothing())
	w.h.Put(bad, boot.Method, w.root)
	none := []api.Word{0, 1, 3, 2, w.root + 2, 1 << 40, math.MaxUint64, w.raw(1, 2, 3)}
	for n := range 6 {
		if words := append([]api.Word{home, num(0), num(0)}, slices.Repeat([]api.Word{w.nothing()}, 3)...)[:n]; n != 3 {
			none = append(none, w.alloc("Block", head.Fields, words...), w.alloc("Block", head.Slots, words...))
		}
		b, _ := w.h.Alloc(w.classes["Block"], head.Raw, n, 0)
		none = append(none, b)
	}
	for _, c := range []api.Word{small, bad, w.alloc("Array", head.Slots, w.list(home)...)} {
		none = append(none, w.alloc("Block", head.Fields, c, num(0), num(0)))
	}
	none = append(none, w.alloc("Array", head.Fields, home, num(0), num(0)), w.alloc("P", head.Fields, home, num(0), num(0)))
	for _, name := range keys(odd) {
		none = append(none, w.alloc("Block", head.Fields, odd[name], num(0), num(0)))
		if !isNumber(odd[name]) {
			none = append(none, w.alloc("Block", head.Fields, home, odd[name], num(0)), w.alloc("Block", head.Fields, home, num(0), odd[name]))
		}
	}
	for _, p := range w.objects() {
		if d, _ := w.h.Head(p); d.Class != w.classes["Block"] {
			none = append(none, p)
		}
	}
	before := w.h.Clone()
	for _, free := range []int{1000, 0} {
		w.left(free)
		for _, p := range none {
			for n := range 4 {
				if c, e := Enter(w.h, w.root, p, home, args(n)...); c != 0 || e != api.ErrKind {
					t.Errorf("P20.3: Enter of %x, which is no block, with %d args: %x, %d", p, n, c, e)
				}
			}
		}
		if !slices.Equal(w.h.Words(), before.Words()) {
			t.Errorf("P20.5: Enter of no block has changed memory")
		}
	}
	// Counts that nothing has.
	for _, n := range []int64{-1, -2, 1000000, 1 << 40, api.MaxInt, api.MinInt} {
		w.left(1000)
		block := w.alloc("Block", head.Fields, home, num(0), num(n))
		before := w.h.Clone()
		for count := range 4 {
			if c, e := Enter(w.h, w.root, block, home, args(count)...); c != 0 || e != api.ErrArg {
				t.Errorf("P20.3: Enter of a block that asks for %d: %x, %d", n, c, e)
			}
		}
		w.same("Enter of a block that asks for any count", before)
	}
	// The header of its home's method is no number: there is nothing that says how great a stack.
	method := w.like(1, 1, nil)
	home = w.context(method, 1, w.nothing())
	w.left(1000)
	block := w.block(home, home, 0, 1)
	w.h.Put(method, 0, w.nothing())
	before = w.h.Clone()
	if c, e := Enter(w.h, w.root, block, home, 1); c != 0 || e != api.ErrKind {
		t.Errorf("P20.3: Enter where the header is no number: %x, %d", c, e)
	}
	if c, e := Enter(w.h, w.root, block, home); c != 0 || e != api.ErrArg {
		t.Errorf("P20.3: Enter where the header is no number: %x, %d", c, e)
	}
	w.same("Enter where the header is no number", before)
}

// Just enough room, and one cell less.
func TestEnterRoom(t *testing.T) {
	w := newWorld(t)
	for _, x := range []struct{ slots, stack, count int }{{0, 1, 0}, {3, 2, 1}, {3, 2, 2}, {3, 2, 3}, {60, 4, 9}, {1, 200, 0}} {
		w.left(5000)
		home := w.context(w.like(x.slots, x.stack, nil), 1, w.nothing())
		block := w.block(home, home, 3, x.count)
		need := 2 + 6 + max(x.stack, x.count)
		for free := max(0, need-3); free < need+3; free++ {
			w.left(free)
			before := w.h.Clone()
			if free >= need {
				w.entered(block, home, home, args(x.count)...)
				if w.h.Free() != free-need {
					t.Errorf("P20.3: of %d cells %d are left", free, w.h.Free())
				}
				w.h = before
				continue
			}
			if c, e := Enter(w.h, w.root, block, home, args(x.count)...); c != 0 || e != api.ErrFull {
				t.Errorf("P20.3: Enter in %d cells of %d: %x, %d", free, need, c, e)
			}
			if c, e := Enter(w.h, w.root, block, home, args(x.count+1)...); c != 0 || e != api.ErrArg {
				t.Errorf("P20.3: Enter in %d cells of %d: %x, %d", free, need, c, e)
			}
			w.same("Enter without room", before)
		}
	}
}

// As many args as an object can have words, and more.
func TestEnterGreatest(t *testing.T) {
	w := newWorld(t)
	home := w.context(w.method("foo:bar:"), 1, w.nothing())
	w.left(api.MaxHeap - 30000)
	for _, x := range []struct {
		count int
		want  api.Errno
	}{{api.MaxObject - 6, api.OK}, {api.MaxObject - 5, api.ErrFull}, {api.MaxObject + 1, api.ErrFull}} {
		block := w.block(home, home, 0, x.count)
		before := w.h.Clone()
		if x.want == api.OK {
			w.entered(block, home, home, args(x.count)...)
			w.h = before
			continue
		}
		if c, e := Enter(w.h, w.root, block, home, args(x.count)...); c != 0 || e != x.want {
			t.Errorf("P20.3: Enter with %d args: %x, %d", x.count, c, e)
		}
		w.same("Enter with too many args", before)
	}
}

// A block runs on its home's slots, with a stack of its own.
func TestTogether(t *testing.T) {
	w := newWorld(t)
	home := w.context(w.method("foo:bar:"), w.instance(), w.nothing())
	f := w.open(home)
	f.SetTemp(0, num(3))
	f.Push(w.root)
	block := w.block(home, home, 2, 2)
	one := w.open(w.entered(block, home, home, num(8), num(9)))
	two := w.open(w.entered(block, home, one.Context(), w.nothing(), w.nothing()))
	if x, _ := one.Pop(); x != num(9) {
		t.Errorf("P20.3: the last of the args is %x", x)
	}
	if x, _ := one.Temp(0); x != num(3) {
		t.Errorf("P20.1: the home's slot is %x", x)
	}
	two.SetTemp(0, num(4))
	if x, _ := f.Temp(0); x != num(4) {
		t.Errorf("P20.1: the home's slot is %x", x)
	}
	if f.Depth() != 1 || one.Depth() != 1 || two.Depth() != 2 {
		t.Errorf("P20.1: stacks of %d, %d, %d words", f.Depth(), one.Depth(), two.Depth())
	}
	if got := Chain(w.h, w.root, two.Context()); !slices.Equal(got, []api.Word{two.Context(), one.Context(), home}) {
		t.Errorf("P20.4: Chain = %x", got)
	}
	// A block within a block has the same home.
	w.block(two.Context(), home, 5, 0)
	two.Leave()
	w.sound("all that")
}

// P20.4

func TestChain(t *testing.T) {
	w := newWorld(t)
	first := w.word(w.word(w.special(sound.Schedule), 0), 0)
	check := func(p api.Word, want ...api.Word) {
		t.Helper()
		before := w.h.Clone()
		one, two := Chain(w.h, w.root, p), Chain(w.h, w.root, p)
		if !slices.Equal(one, want) {
			t.Errorf("P20.4: Chain(%x) = %x, want %x", p, one, want)
		}
		clear(one[:cap(one)])
		if !slices.Equal(two, want) {
			t.Errorf("P20.4: what Chain answers shares memory")
		}
		w.same("Chain", before)
	}
	check(first, first)
	odd := w.odd()
	odd["a small context"] = w.alloc("Context", head.Slots, w.list(first)[:6]...)
	for _, name := range keys(odd) {
		check(odd[name])
		p := w.context(w.method("none"), 1, odd[name]) // ends there, whatever its Sender is
		check(p, p)
		check(w.context(w.method("none"), 1, p), w.h.After(p), p)
	}
	for _, p := range []api.Word{0, 1, 2, 3, w.root, w.classes["Context"], w.method("none")} {
		check(p)
	}
	// Many, of both kinds, and also those that were left.
	chain := []api.Word{first}
	home := first
	for i := range 300 {
		var p api.Word
		if i%3 == 0 {
			p = w.context(w.method([]string{"none", "wide"}[i%2]), 1, chain[0])
			home = p
		} else {
			p = w.inner(home, chain[0], 2)
		}
		if i%5 == 0 {
			w.open(p).Leave()
		}
		chain = append([]api.Word{p}, chain...)
		if i%50 == 0 || i == 299 {
			check(p, chain...)
		}
	}
	check(chain[200], chain[200:]...)
	w.h.Put(chain[200], boot.Method, w.root) // no context any more
	check(chain[0], chain[:200]...)
}

// Senders that lead back: on and on, but no more than there are cells.
func TestChainCycle(t *testing.T) {
	w := newWorld(t)
	var ring []api.Word
	for range 7 {
		ring = append(ring, w.context(w.method("none"), 1, w.nothing()))
	}
	w.left(100)
	for n := 1; n <= 7; n++ {
		for i := range 7 {
			w.open(ring[i]).SetWord(boot.Sender, ring[(i+1)%7])
		}
		w.open(ring[6]).SetWord(boot.Sender, ring[7-n]) // the last n are a ring
		before := w.h.Clone()
		var want []api.Word
		for i := 0; len(want) < w.h.Cells(); i++ {
			if i == 7 {
				i = 7 - n
			}
			want = append(want, ring[i])
		}
		if got := Chain(w.h, w.root, ring[0]); !slices.Equal(got, want) {
			t.Errorf("P20.4: Chain that leads back has %d, want %d", len(got), len(want))
		}
		w.same("Chain", before)
	}
}
