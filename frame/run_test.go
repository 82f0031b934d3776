package frame

import (
	"math"
	"math/rand"
	"slices"
	"testing"

	"foundling/api"
	"foundling/boot"
	"foundling/code"
	"foundling/head"
)

// P20.2

// The first, the last, one beyond, below 0; of numbers, and of bytes.
func TestField(t *testing.T) {
	w := newWorld(t)
	list := w.alloc("Array", head.Slots, slices.Repeat([]api.Word{num(2)}, 70)...)
	receivers := []api.Word{w.instance(), w.nothing(), list, w.alloc("Array", head.Slots), w.root, w.classes["P"], w.raw(1, 2, 3), w.raw(), num(3), 0, w.root + 2, 1 << 63, math.MaxUint64}
	outer := w.context(w.method("foo:bar:"), 1, w.nothing())
	receivers = append(receivers, outer)
	for _, r := range receivers {
		w.h.Put(outer, boot.Receiver, r)
		inner := w.inner(outer, outer, 2)
		d, _ := w.h.Head(r)
		for _, p := range []api.Word{outer, inner} {
			f := w.open(p)
			for _, i := range []int{0, 1, d.Size - 1, d.Size, d.Size + 1, -1, -2, 1000, math.MaxInt, math.MinInt} {
				before := w.h.Clone()
				x, e := f.Field(i)
				if y, want := w.h.Get(r, i); x != y || e != want {
					t.Errorf("P20.2: Field(%d) of %x: %x, %d; want %x, %d", i, r, x, e, y, want)
				}
				w.same("Field", before)
				got := f.SetField(i, num(77))
				want := before.Clone()
				if e := want.Put(r, i, num(77)); got != e {
					t.Errorf("P20.2: SetField(%d) of %x: %d, want %d", i, r, got, e)
				}
				if !w.h.Same(want) {
					t.Errorf("P20.5: SetField(%d) of %x has changed something else", i, r)
				}
				w.h = before
				f = w.open(p)
			}
		}
	}
}

func TestFieldErrors(t *testing.T) {
	w := newWorld(t)
	f := w.open(w.context(w.method("foo:bar:"), w.instance(), w.nothing()))
	for i, want := range map[int]api.Errno{0: 0, 2: 0, 3: api.ErrNone, -1: api.ErrNone} {
		if _, e := f.Field(i); e != want {
			t.Errorf("P20.2: Field(%d): %d", i, e)
		}
		if e := f.SetField(i, 1); e != want {
			t.Errorf("P20.2: SetField(%d): %d", i, e)
		}
	}
	for _, r := range []api.Word{num(0), w.raw(1, 2, 3), 0} {
		f.SetWord(boot.Receiver, r)
		for _, i := range []int{0, 1, -1, 5} {
			if x, e := f.Field(i); x != 0 || e != api.ErrKind {
				t.Errorf("P20.2: Field(%d) of %x: %x, %d", i, r, x, e)
			}
			if e := f.SetField(i, 1); e != api.ErrKind {
				t.Errorf("P20.2: SetField(%d) of %x: %d", i, r, e)
			}
		}
	}
}

func TestLiteral(t *testing.T) {
	w := newWorld(t)
	many := make([]api.Word, 200)
	for i := range many {
		many[i] = num(int64(3 * i))
	}
	methods := []api.Word{w.method("none"), w.method("foo:bar:"), w.method("deep:"), w.method("wide"), w.like(0, 1, nil), w.like(3, 1, []api.Word{w.root}), w.like(3, 1, many)}
	other := w.context(w.method("none"), 1, w.nothing())
	for _, m := range methods {
		words := w.list(w.word(m, 1))
		outer := w.context(m, 1, w.nothing())
		inner := w.inner(outer, outer, 1)
		beside := w.inner(other, other, 1) // its Method is what counts, not its home's
		w.h.Put(beside, boot.Method, m)
		before := w.h.Clone()
		for _, p := range []api.Word{outer, inner, beside} {
			f := w.open(p)
			for i, want := range words {
				if x, e := f.Literal(i); x != want || e != api.OK {
					t.Errorf("P20.2: Literal(%d) = %x, %d; want %x", i, x, e, want)
				}
			}
			for _, i := range []int{len(words), len(words) + 1, 1000, math.MaxInt, -1, -2, math.MinInt} {
				if x, e := f.Literal(i); x != 0 || e != api.ErrNone {
					t.Errorf("P20.2: Literal(%d) of %d: %x, %d", i, len(words), x, e)
				}
			}
		}
		w.same("Literal", before)
	}
}

// next: at each place of a method's bytes, the end, and beyond.
func (w *world) next(p, m api.Word, text []byte) {
	w.t.Helper()
	f, g := w.open(p), w.open(p)
	n := len(text)
	for at := -3; at < n+10; at++ {
		before := w.h.Clone()
		if at < 0 || at > n {
			if e := f.Go(at); e != api.ErrArg {
				w.t.Errorf("P20.2: Go(%d) of %d: %d", at, n, e)
			}
			w.same("Go to no place", before)
			w.h.Put(p, boot.Pc, num(int64(at)))
		} else {
			if e := f.Go(at); e != api.OK {
				w.t.Errorf("P20.2: Go(%d) of %d: %d", at, n, e)
			}
			w.changes("Go", before, p, map[int]api.Word{boot.Pc: num(int64(at))})
		}
		before = w.h.Clone()
		want, behind, wanted := code.Decode(text, at)
		for _, f := range []*Frame{f, g} {
			if i, to, e := f.Next(); i != want || to != behind || e != wanted {
				w.t.Errorf("P20.2: Next at %d of %d: %v, %d, %d; want %v, %d, %d", at, n, i, to, e, want, behind, wanted)
			}
		}
		w.same("Next", before)
	}
	for _, at := range []int{math.MinInt, math.MaxInt, math.MaxInt - 1, math.MaxInt - 4, 1 << 62, 1<<62 - 1, -1 << 62} {
		before := w.h.Clone()
		if e := f.Go(at); e != api.ErrArg {
			w.t.Errorf("P20.2: Go(%d): %d", at, e)
		}
		w.same("Go to no place", before)
	}
	for _, at := range []int64{api.MaxInt, api.MinInt, 1 << 40, -1 << 40} {
		w.h.Put(p, boot.Pc, num(at))
		if i, to, e := f.Next(); i != (code.Instr{}) || to != 0 || e != api.ErrArg {
			w.t.Errorf("P20.2: Next at %d: %v, %d, %d", at, i, to, e)
		}
	}
}

func TestNext(t *testing.T) {
	w := newWorld(t)
	for _, name := range []string{"none", "foo:bar:", "deep:", "wide"} {
		m := w.method(name)
		outer := w.context(m, 1, w.nothing())
		b, _ := w.h.Bytes(w.word(m, 2))
		w.next(outer, m, b)
		w.next(w.inner(outer, outer, 2), m, b)
	}
}

// Each Op, cut at each byte; bytes of any value.
func TestNextAny(t *testing.T) {
	w := newWorld(t)
	start := w.h.Clone()
	try := func(text []byte) {
		t.Helper()
		w.h = start.Clone()
		m := w.like(0, 1, nil, text...)
		w.next(w.context(m, 1, w.nothing()), m, text)
	}
	try(nil)
	for op := range 22 {
		for n := range 5 {
			try(append([]byte{byte(op)}, []byte{200, 201, 202, 203}[:n]...))
		}
	}
	for seed := range int64(30) {
		r := rand.New(rand.NewSource(seed))
		text := make([]byte, r.Intn(20))
		for i := range text {
			text[i] = byte(r.Intn(24))
			if r.Intn(5) == 0 {
				text[i] = byte(r.Intn(256))
			}
		}
		try(text)
	}
}

// As long as code can be, and longer.
func TestNextLong(t *testing.T) {
	w := newWorld(t)
	text := make([]byte, api.MaxCode+9)
	for i := range text {
		text[i] = byte(i * 7 % 23)
	}
	f := w.open(w.context(w.like(0, 1, nil, text...), 1, w.nothing()))
	for _, at := range []int{0, 1, 255, 256, 257, 9999, api.MaxCode - 1, api.MaxCode, len(text) - 5, len(text) - 4, len(text) - 3, len(text) - 2, len(text) - 1, len(text)} {
		if e := f.Go(at); e != api.OK {
			t.Errorf("P20.2: Go(%d): %d", at, e)
		}
		want, behind, wanted := code.Decode(text, at)
		if i, to, e := f.Next(); i != want || to != behind || e != wanted {
			t.Errorf("P20.2: Next at %d: %v, %d, %d; want %v, %d, %d", at, i, to, e, want, behind, wanted)
		}
	}
}

// Who has been left may be sent anywhere again; who hasn't, whatever its Pc was.
func TestGoAgain(t *testing.T) {
	w := newWorld(t)
	f := w.open(w.context(w.method("foo:bar:"), 1, w.nothing()))
	f.Leave()
	if _, _, e := f.Next(); e != api.ErrKind {
		t.Errorf("P20.2: Next of who has been left: %d", e)
	}
	if e := f.Go(2); e != api.OK || f.Over() || f.Word(boot.Pc) != num(2) {
		t.Errorf("P20.2: Go: %d, %x", e, f.Word(boot.Pc))
	}
}
