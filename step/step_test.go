package step

import (
	"fmt"
	"math"
	"strings"
	"testing"

	"foundling/api"
	"foundling/boot"
	"foundling/code"
	"foundling/head"
	"foundling/sound"
)

// tried: a step, against the model's.
func (w *world) tried(what string, context api.Word) (Action, api.Errno) {
	w.t.Helper()
	before := w.h.Clone()
	m := &model{w.h.Clone(), w.root, context}
	want, wanted := m.step()
	if wanted != api.OK {
		want, m.h = Action{}, before
	}
	line := Text(w.h, w.root, context)
	got, e := Step(w.h, w.root, context)
	if got != want || e != wanted {
		w.t.Errorf("P21.1: %s: Step of %q = %v, %d; want %v, %d", what, line, got, e, want, wanted)
	}
	w.same(what+": Step of "+line, m.h)
	return got, e
}

// P21.1: the numbers of the kinds.
func TestKinds(t *testing.T) {
	if [...]int{Went, Sends, Supers, Returns, Ends, Refused, Back} != [...]int{0, 1, 2, 3, 4, 5, 6} {
		t.Errorf("P21.1: the kinds are others")
	}
}

// The chapter's example.
func TestExample(t *testing.T) {
	w := newWorld(t)
	for _, m := range w.methods("P") {
		if w.text(w.word(m, 3)) != "three" {
			continue
		}
		c := w.context(m, w.instance(), 0)
		if a, e := w.tried("the example", c); a != (Action{}) || e != api.OK {
			t.Errorf("P21.1: PushSmall: %v, %d", a, e)
		}
		if a, e := w.tried("the example", c); a != (Action{Returns, num(3), 0}) || e != api.OK {
			t.Errorf("P21.1: Return: %v, %d", a, e)
		}
		return
	}
	t.Errorf("there is no method three")
}

// each: a step of one instruction, with such words on the stack, and what is to come of it: what stands on the stack then, and how far Pc has gone beyond the place behind it.
type each struct {
	instr code.Instr
	stack []api.Word
	a     Action
	e     api.Errno
	left  []api.Word
	goes  int
}

// P21.1: the table, row by row, in contexts of methods and of blocks.
func TestTable(t *testing.T) {
	w := newWorld(t)
	nothing, yes, no := w.nothing(), w.special(sound.True), w.special(sound.False)
	p := w.instance()
	x, y, z := num(100), w.raw(1), p
	list := func(words ...api.Word) []api.Word { return words }
	rows := []each{
		{code.Instr{Op: code.PushSelf}, nil, Action{}, 0, list(p), 0},
		{code.Instr{Op: code.PushSelf}, list(x), Action{}, 0, list(x, p), 0},
		{code.Instr{Op: code.PushNil}, list(x), Action{}, 0, list(x, nothing), 0},
		{code.Instr{Op: code.PushTrue}, list(x), Action{}, 0, list(x, yes), 0},
		{code.Instr{Op: code.PushFalse}, list(x), Action{}, 0, list(x, no), 0},
		{code.Instr{Op: code.PushSmall, A: 0}, nil, Action{}, 0, list(num(0)), 0},
		{code.Instr{Op: code.PushSmall, A: 127}, nil, Action{}, 0, list(num(127)), 0},
		{code.Instr{Op: code.PushSmall, A: -128}, nil, Action{}, 0, list(num(-128)), 0},
		{code.Instr{Op: code.PushSmall, A: -1}, list(x, y), Action{}, 0, list(x, y, num(-1)), 0},
		{code.Instr{Op: code.PushTemp, A: 0}, list(x), Action{}, 0, list(x, num(50)), 0},
		{code.Instr{Op: code.PushTemp, A: 1}, list(x), Action{}, 0, list(x, num(51)), 0},
		{code.Instr{Op: code.PushTemp, A: 2}, list(x), Action{}, api.ErrNone, nil, 0},
		{code.Instr{Op: code.PushTemp, A: 255}, list(x), Action{}, api.ErrNone, nil, 0},
		{code.Instr{Op: code.PushField, A: 0}, list(x), Action{}, 0, list(x, num(7)), 0},
		{code.Instr{Op: code.PushField, A: 2}, list(x), Action{}, 0, list(x, w.root), 0},
		{code.Instr{Op: code.PushField, A: 3}, list(x), Action{}, api.ErrNone, nil, 0},
		{code.Instr{Op: code.PushLit, A: 0}, list(x), Action{}, 0, list(x, w.special(sound.Lacks)), 0},
		{code.Instr{Op: code.PushLit, A: 1}, list(x), Action{}, 0, list(x, num(1000)), 0},
		{code.Instr{Op: code.PushLit, A: 2}, list(x), Action{}, api.ErrNone, nil, 0},
		{code.Instr{Op: code.StoreTemp, A: 0}, nil, Action{}, api.ErrNone, nil, 0},
		{code.Instr{Op: code.StoreTemp, A: 2}, list(x), Action{}, api.ErrNone, nil, 0},
		{code.Instr{Op: code.StoreField, A: 0}, nil, Action{}, api.ErrNone, nil, 0},
		{code.Instr{Op: code.StoreField, A: 3}, list(x), Action{}, api.ErrNone, nil, 0},
		{code.Instr{Op: code.Pop}, nil, Action{}, api.ErrNone, nil, 0},
		{code.Instr{Op: code.Pop}, list(x), Action{}, 0, nil, 0},
		{code.Instr{Op: code.Pop}, list(x, y, z), Action{}, 0, list(x, y), 0},
		{code.Instr{Op: code.Dup}, nil, Action{}, api.ErrNone, nil, 0},
		{code.Instr{Op: code.Dup}, list(x, y), Action{}, 0, list(x, y, y), 0},
		{code.Instr{Op: code.Send, A: 0, B: 0}, list(x), Action{Sends, w.special(sound.Lacks), 0}, 0, list(x), 0},
		{code.Instr{Op: code.Send, A: 1, B: 0}, list(x), Action{Sends, num(1000), 0}, 0, list(x), 0},
		{code.Instr{Op: code.Send, A: 2, B: 0}, list(x), Action{}, api.ErrNone, nil, 0},
		{code.Instr{Op: code.Send, A: 0, B: 2}, list(x, y, z), Action{Sends, w.special(sound.Lacks), 2}, 0, list(x, y, z), 0},
		{code.Instr{Op: code.Send, A: 0, B: 3}, list(x, y, z), Action{}, api.ErrNone, nil, 0},
		{code.Instr{Op: code.Send, A: 0, B: 0}, nil, Action{}, api.ErrNone, nil, 0},
		{code.Instr{Op: code.Send, A: 0, B: 255}, list(x, y, z), Action{}, api.ErrNone, nil, 0},
		{code.Instr{Op: code.SuperSend, A: 1, B: 1}, list(x, y), Action{Supers, num(1000), 1}, 0, list(x, y), 0},
		{code.Instr{Op: code.SuperSend, A: 1, B: 2}, list(x, y), Action{}, api.ErrNone, nil, 0},
		{code.Instr{Op: code.SuperSend, A: 3, B: 0}, list(x, y), Action{}, api.ErrNone, nil, 0},
		{code.Instr{Op: code.Jump, A: 0}, nil, Action{}, 0, nil, 0},
		{code.Instr{Op: code.Jump, A: 5}, list(x), Action{}, 0, list(x), 5},
		{code.Instr{Op: code.Jump, A: 6}, list(x), Action{}, api.ErrArg, nil, 0},
		{code.Instr{Op: code.Jump, A: -1}, nil, Action{Kind: Back}, 0, nil, -1},
		{code.Instr{Op: code.Jump, A: -7}, list(x), Action{Kind: Back}, 0, list(x), -7},
		{code.Instr{Op: code.Jump, A: -8}, list(x), Action{}, api.ErrArg, nil, 0},
		{code.Instr{Op: code.Jump, A: 32767}, list(x), Action{}, api.ErrArg, nil, 0},
		{code.Instr{Op: code.Jump, A: -32768}, list(x), Action{}, api.ErrArg, nil, 0},
		{code.Instr{Op: code.Return}, list(x, y), Action{Returns, y, 0}, 0, list(x), 0},
		{code.Instr{Op: code.Return}, nil, Action{}, api.ErrNone, nil, 0},
		{code.Instr{Op: code.End}, list(x, p), Action{Ends, p, 0}, 0, list(x), 0},
		{code.Instr{Op: code.End}, nil, Action{}, api.ErrNone, nil, 0},
	}
	for op, truths := range map[int][2]api.Word{code.JumpTrue: {yes, no}, code.JumpFalse: {no, yes}} {
		rows = append(rows,
			each{code.Instr{Op: op, A: 4}, list(x, truths[0]), Action{}, 0, list(x), 4},
			each{code.Instr{Op: op, A: 5}, list(truths[0]), Action{}, 0, nil, 5},
			each{code.Instr{Op: op, A: -7}, list(x, truths[0]), Action{}, 0, list(x), -7},
			each{code.Instr{Op: op, A: 6}, list(x, truths[0]), Action{}, api.ErrArg, nil, 0},
			each{code.Instr{Op: op, A: -8}, list(x, truths[0]), Action{}, api.ErrArg, nil, 0},
			each{code.Instr{Op: op, A: 4}, list(x, truths[1]), Action{}, 0, list(x), 0},
			each{code.Instr{Op: op, A: 99}, list(x, truths[1]), Action{}, 0, list(x), 0},
			each{code.Instr{Op: op, A: 4}, nil, Action{}, api.ErrNone, nil, 0},
		)
		for _, other := range list(nothing, num(0), num(1), p, y, w.root, w.classes["True"], w.classes["P"]) {
			rows = append(rows, each{code.Instr{Op: op, A: 4}, list(x, other), Action{Refused, other, 0}, 0, list(x), 0})
			rows = append(rows, each{code.Instr{Op: op, A: -99}, list(x, other), Action{Refused, other, 0}, 0, list(x), 0})
		}
	}
	for _, row := range rows {
		w.copied(1000).row(row, p, []api.Word{w.special(sound.Lacks), num(1000)})
	}
}

// row: of the table, with 4 bytes ahead of the instruction, and 5 behind.
func (w *world) row(row each, p api.Word, literals []api.Word) {
	w.t.Helper()
	b := append([]byte{1, 1, 1, 1}, encoded(w.t, row.instr)...)
	behind := len(b)
	m := w.like(2, 8, literals, append(b, 1, 1, 1, 1, 1)...)
	home := w.context(m, p, 4, row.stack...)
	w.h.Put(home, 6, num(50))
	w.h.Put(home, 7, num(51))
	// What is gone has to leave 0 behind; all other jumps of the table are as far from both ends as one that has 3 bytes.
	goes := row.goes
	for _, c := range []api.Word{home, w.inner(home, 4, 3, row.stack...)} {
		a, e := w.tried(fmt.Sprint(row), c)
		if a != row.a || e != row.e {
			w.t.Errorf("P21.1: %v: %v, %d", row, a, e)
		}
		if e != api.OK {
			continue
		}
		if pc := w.word(c, boot.Pc); pc != num(int64(behind+goes)) {
			w.t.Errorf("P21.1: %v: Pc is %d, want %d", row, int64(pc)>>1, behind+goes)
		}
		if top := w.word(c, boot.Top); top != num(int64(len(row.left))) {
			w.t.Errorf("P21.1: %v: Top is %d", row, int64(top)>>1)
		}
		from := 6
		if c == home {
			from = 8
		}
		for i, want := range append(row.left, num(0)) {
			if x := w.word(c, from+i); x != want {
				w.t.Errorf("P21.1: %v: word %d of the stack is %x, want %x", row, i, x, want)
			}
		}
	}
}

// The stores: the word stays, and stands in the slot of the home, or in the receiver.
func TestStores(t *testing.T) {
	w := newWorld(t)
	for a := range 3 {
		p := w.instance()
		m := w.like(3, 4, nil, encoded(t, code.Instr{Op: code.StoreTemp, A: a}, code.Instr{Op: code.StoreField, A: a})...)
		home := w.context(m, p, 0, num(9), num(8))
		for _, c := range []api.Word{home, w.inner(home, 0, 2, num(11), num(10+int64(a)))} {
			last := w.word(c, 7)
			if c == home {
				last = num(8)
			}
			for range 2 {
				if x, e := w.tried("a store", c); x != (Action{}) || e != api.OK {
					t.Errorf("P21.1: a store: %v, %d", x, e)
				}
			}
			if w.word(home, 6+a) != last || w.word(p, a) != last || w.word(c, boot.Top) != num(2) {
				t.Errorf("P21.1: the stores of %d: %x, %x", a, w.word(home, 6+a), w.word(p, a))
			}
			if b := w.word(home, 6+(a+1)%3); b != w.nothing() {
				t.Errorf("P21.1: the store of slot %d changed another one", a)
			}
		}
	}
	w.sound("stores")
}

// Receivers that have no words, and other ones than a method's own class would have.
func TestReceivers(t *testing.T) {
	w := newWorld(t)
	empty := w.alloc("Array", head.Slots)
	full := w.alloc("Array", head.Slots, num(1), num(2))
	for r, want := range map[api.Word][2]api.Errno{
		num(0): {api.ErrKind, api.ErrKind}, w.raw(1, 2): {api.ErrKind, api.ErrKind}, 0: {api.ErrKind, api.ErrKind}, w.root + 2: {api.ErrKind, api.ErrKind},
		w.nothing(): {api.ErrNone, api.ErrNone}, empty: {api.ErrNone, api.ErrNone}, full: {api.OK, api.ErrNone}, w.root: {api.OK, api.OK}, w.classes["P"]: {api.OK, api.OK},
	} {
		for _, op := range []int{code.PushField, code.StoreField} {
			for i, a := range []int{0, 4} {
				m := w.like(0, 3, nil, encoded(t, code.Instr{Op: op, A: a})...)
				c := w.copied(100)
				if _, e := c.tried("a field", c.context(m, r, 0, num(5))); e != want[i] {
					t.Errorf("P21.1: field %d of %x: %d, want %d", a, r, e, want[i])
				}
				// Of a stack that is full, and a receiver that has no such word, the least is told.
				c = w.copied(100)
				c.tried("a field, a full stack", c.context(m, r, 0, num(5), num(6), num(7)))
				c.tried("a field, an empty stack", c.context(m, r, 0))
			}
		}
	}
	c := w.context(w.like(0, 1, nil, encoded(t, code.Instr{Op: code.PushField, A: 0})...), num(0), 0, num(5))
	if _, e := Step(w.h, w.root, c); e != api.ErrFull {
		t.Errorf("P21.1: a full stack, and no field: %d", e)
	}
}

// A context that is its own receiver: Pc goes ahead of all else.
func TestOwnReceiver(t *testing.T) {
	w := newWorld(t)
	for a := range 9 {
		for _, op := range []int{code.PushField, code.StoreField} {
			c := w.copied(200)
			m := c.like(1, 3, nil, encoded(t, code.Instr{Op: op, A: a}, code.Instr{Op: code.PushNil})...)
			p := c.context(m, num(0), 0, num(1))
			c.h.Put(p, boot.Receiver, p)
			c.tried("its own receiver", p)
			if a == boot.Pc && op == code.PushField && c.word(p, 8) != num(2) {
				t.Errorf("P21.1: Pc as a field: %x", c.word(p, 8))
			}
			if a == boot.Pc && op == code.StoreField && c.word(p, boot.Pc) != num(1) {
				t.Errorf("P21.1: Pc stored: %x", c.word(p, boot.Pc))
			}
			c.tried("its own receiver", p)
		}
	}
}

// All places of the stack are used, and none more: each push.
func TestFullStack(t *testing.T) {
	w := newWorld(t)
	for op := range code.Pop {
		for places := range 4 {
			for full := range places + 1 {
				c := w.copied(200)
				m := c.like(3, places, []api.Word{num(77)}, encoded(t, code.Instr{Op: op})...)
				home := c.context(m, c.instance(), 0, make([]api.Word, full)...)
				for _, p := range []api.Word{home, c.inner(home, 0, places-full, make([]api.Word, full)...)} {
					if d, _ := c.h.Head(p); d.Size == 6 {
						continue // of none but the first words: no context
					}
					_, e := c.tried("a push", p)
					want := api.OK
					switch {
					case op != code.StoreTemp && op != code.StoreField && full == places:
						want = api.ErrFull
					case (op == code.StoreTemp || op == code.StoreField) && full == 0:
						want = api.ErrNone
					}
					if e != want {
						t.Errorf("P21.1: Op %d, %d of %d places: %d, want %d", op, full, places, e, want)
					}
				}
			}
		}
	}
}

// A block: its words, and where Pc stands behind it, in contexts of methods and of blocks; with room, and with less.
func TestBlock(t *testing.T) {
	w := newWorld(t)
	for _, free := range []int{0, 3, 4, 5, 6, 40} {
		for _, a := range []int{0, 1, 12, 255} {
			for _, b := range []int{0, 1, 6, 7, 65535} {
				c := w.copied(300)
				m := c.like(2, 3, nil, append(encoded(t, code.Instr{Op: code.PushNil}, code.Instr{Op: code.Block, A: a, B: b}), 1, 19, 99, 1, 1, 1)...)
				home := c.context(m, c.instance(), 1, num(5))
				for _, p := range []api.Word{home, c.inner(home, 1, 2, num(5)), c.inner(home, 1, 0, num(5))} {
					d := c.copied(free)
					action, e := d.tried("a block", p)
					isFull := p != home && c.size(p) == 7
					want := api.OK
					switch {
					case free < 5:
						want = api.ErrFull
					case b > 6:
						want = api.ErrArg
					case isFull:
						want = api.ErrFull
					}
					if e != want || action != (Action{}) {
						t.Fatalf("P21.1: a block of %d, %d, with %d free: %v, %d; want %d", a, b, free, action, e, want)
					}
					if e != api.OK {
						continue
					}
					at := 7
					if p == home {
						at = 9
					}
					block := d.word(p, at)
					if got := d.list(block); len(got) != 3 || got[0] != home || got[1] != num(5) || got[2] != num(int64(a)) || d.word(p, boot.Pc) != num(int64(5+b)) {
						t.Errorf("P21.1: a block of %d, %d: %x", a, b, got)
					}
					d.sound("a block")
				}
			}
		}
	}
}

func (w *world) size(p api.Word) int {
	d, _ := w.h.Head(p)
	return d.Size
}

// What is no context, what has been left, a Pc that is no place, bytes that are no instruction.
func TestNoStep(t *testing.T) {
	w := newWorld(t)
	nothing := w.nothing()
	m := w.like(0, 2, nil, 1, 4, 99, 14, 0)
	c := w.context(m, nothing, 0)
	for _, p := range []api.Word{0, 1, num(5), nothing, w.root, w.instance(), m, w.raw(1, 2), c + 2, 1 << 40, math.MaxUint64 - 1, w.alloc("Context", head.Slots, w.list(c)[:6]...), w.alloc("Context", head.Slots, nothing, num(0), num(0), nothing, nothing, nothing, nothing), w.alloc("Array", head.Slots, w.list(c)...)} {
		if a, e := w.tried("no context", p); a != (Action{}) || e != api.ErrKind {
			t.Errorf("P21.1: of no context: %v, %d", a, e)
		}
		if s := Text(w.h, w.root, p); s != "" {
			t.Errorf("P21.3: of no context: %q", s)
		}
	}
	for pc, want := range map[api.Word]api.Errno{nothing: api.ErrState, num(-1): api.ErrArg, num(6): api.ErrArg, num(api.MinInt): api.ErrArg, num(api.MaxInt): api.ErrArg, num(5): api.ErrEnd, num(2): api.ErrForm, num(3): api.ErrEnd, num(4): api.OK, w.root: api.ErrKind, 0: api.ErrKind, w.special(sound.True): api.ErrKind} {
		w.h.Put(c, boot.Pc, pc)
		a, e := w.tried("another Pc", c)
		if a != (Action{}) || e != want {
			t.Errorf("P21.1: Pc %x: %v, %d; want %d", pc, a, e, want)
		}
		w.h.Put(c, boot.Pc, pc)
		if s := Text(w.h, w.root, c); (s == "") != (want != api.OK) {
			t.Errorf("P21.3: Pc %x: %q", pc, s)
		}
	}
}

// Words of a context that are of another kind than they should be.
func TestOtherKinds(t *testing.T) {
	w := newWorld(t)
	some := []api.Word{0, num(0), num(-1), num(3), num(100), num(api.MaxInt), num(api.MinInt), w.nothing(), w.root, w.raw(1, 2, 3), w.methods("P")[0], w.classes["P"], 1 << 50}
	for op := range code.End + 1 {
		b := append(encoded(t, code.Instr{Op: op}), 1, 1)
		m := w.like(2, 3, []api.Word{w.root}, b...)
		home := w.context(m, w.instance(), 0, w.special(sound.False), w.special(sound.True))
		inner := w.inner(home, 0, 1, w.special(sound.False), w.special(sound.True))
		for _, p := range []api.Word{home, inner} {
			for _, object := range []api.Word{p, m, home, w.root} {
				for i := range min(8, w.size(object)) {
					if object == w.root && i > sound.False {
						continue
					}
					for _, x := range some {
						c := w.copied(9)
						c.h.Put(object, i, x)
						c.tried(fmt.Sprintf("word %d of %x changed to %x", i, object, x), p)
					}
				}
			}
		}
	}
}

// P21.3: as code.Text has it, with the place that the Pc is.
func TestText(t *testing.T) {
	w := newWorld(t)
	lines := 0
	for _, m := range append(w.methods("P"), w.methods("Q")...) {
		b, _ := w.h.Bytes(w.word(m, 2))
		text, e := code.Text(b)
		if e != api.OK {
			t.Fatalf("code.Text: %d", e)
		}
		p := w.context(m, w.instance(), 0)
		for _, c := range []api.Word{p, w.inner(p, 0, 1)} {
			at := 0
			for line := range strings.Lines(text) {
				w.h.Put(c, boot.Pc, num(int64(at)))
				before := w.h.Clone()
				if s := Text(w.h, w.root, c); s+"\n" != line {
					t.Errorf("P21.3: %q, want %q", s, line)
				}
				w.same("Text", before)
				_, at, _ = code.Decode(b, at)
				lines++
			}
			w.h.Put(c, boot.Pc, num(int64(at)))
			if s := Text(w.h, w.root, c); s != "" {
				t.Errorf("P21.3: behind the end: %q", s)
			}
			w.h.Put(c, boot.Pc, w.nothing())
			if s := Text(w.h, w.root, c); s != "" {
				t.Errorf("P21.3: of what was left: %q", s)
			}
		}
	}
	if lines < 200 {
		t.Errorf("the test tries too little: %d", lines)
	}
}

// Of each Op, at places of one digit and of many, also where no instruction is that a step could do.
func TestTextOfEach(t *testing.T) {
	w := newWorld(t)
	for want, i := range map[string]code.Instr{
		"PushSelf": {Op: 0}, "PushNil": {Op: 1}, "PushTrue": {Op: 2}, "PushFalse": {Op: 3}, "PushSmall -128": {Op: 4, A: -128}, "PushSmall 0": {Op: 4}, "PushTemp 0": {Op: 5}, "PushTemp 255": {Op: 5, A: 255}, "PushField 10": {Op: 6, A: 10}, "PushLit 7": {Op: 7, A: 7},
		"StoreTemp 1": {Op: 8, A: 1}, "StoreField 0": {Op: 9}, "Pop": {Op: 10}, "Dup": {Op: 11}, "Send 0 0": {Op: 12}, "Send 255 255": {Op: 12, A: 255, B: 255}, "SuperSend 3 4": {Op: 13, A: 3, B: 4}, "Jump 0": {Op: 14}, "Jump -32768": {Op: 14, A: -32768},
		"JumpTrue 32767": {Op: 15, A: 32767}, "JumpFalse -1": {Op: 16, A: -1}, "Block 0 0": {Op: 17}, "Block 255 65535": {Op: 17, A: 255, B: 65535}, "Return": {Op: 18}, "End": {Op: 19},
	} {
		for _, at := range []int{0, 1, 9, 10, 100, 12345} {
			c := w.copied(4000)
			m := c.like(0, 1, nil, append(make([]byte, at), encoded(t, i)...)...)
			if s := Text(c.h, c.root, c.context(m, num(0), at)); s != fmt.Sprint(at)+" "+want {
				t.Errorf("P21.3: at %d: %q, want %q", at, s, want)
			}
		}
	}
}
