package step

import (
	"math"
	"math/rand"
	"slices"
	"testing"

	"foundling/api"
	"foundling/boot"
	"foundling/code"
	"foundling/frame"
	"foundling/head"
	"foundling/heap"
	"foundling/sound"
)

// someInstr: one whose parts are, mostly, such that it can be done.
func someInstr(r *rand.Rand) code.Instr {
	i := code.Instr{Op: r.Intn(20)}
	near := func() int { return []int{0, 1, 2, 3, 200}[r.Intn(5)] }
	switch i.Op {
	case code.PushSmall:
		i.A = r.Intn(256) - 128
	case code.PushTemp, code.PushField, code.PushLit, code.StoreTemp, code.StoreField:
		i.A = near()
	case code.Send, code.SuperSend:
		i.A, i.B = near(), near()
	case code.Jump, code.JumpTrue, code.JumpFalse:
		i.A = r.Intn(31) - 15
	case code.Block:
		i.A, i.B = near(), r.Intn(12)
	}
	return i
}

// Steps by chance, each against the model, of code that may be any, with stacks of any depth, in memory of little room.
func TestChance(t *testing.T) {
	w := newWorld(t)
	told := map[[2]int]int{}
	for seed := range int64(2500) {
		r := rand.New(rand.NewSource(seed))
		c := w.copied(400)
		some := []api.Word{c.nothing(), c.special(sound.True), c.special(sound.False), num(3), c.root, c.raw(1, 2), c.instance()}
		one := func() api.Word { return some[r.Intn(len(some))] }
		var b []byte
		for range 12 {
			b = append(b, encoded(t, someInstr(r))...)
		}
		var literals []api.Word
		for range r.Intn(4) {
			literals = append(literals, one())
		}
		slots, places := r.Intn(4), 1+r.Intn(5)
		var stack []api.Word
		for range r.Intn(places + 1) {
			stack = append(stack, one())
		}
		home := c.context(c.like(slots, places, literals, b...), one(), r.Intn(9), stack...)
		contexts := []api.Word{home, c.inner(home, 0, 2, one(), one()), c.inner(home, 0, 1, one())}
		c = c.copied(r.Intn(40))
		for range 30 {
			p := contexts[r.Intn(len(contexts))]
			if r.Intn(3) == 0 {
				c.h.Put(p, boot.Pc, num(int64(r.Intn(len(b)+1))))
			}
			pc, _ := value(c.word(p, boot.Pc))
			i, _, _ := code.Decode(b, pc)
			_, e := c.tried("by chance", p)
			told[[2]int{i.Op, int(e)}]++
			if t.Failed() {
				t.Fatalf("seed %d", seed)
			}
			if r.Intn(40) == 0 {
				c.h.Put(p, boot.Pc, c.nothing())
			}
		}
		if c.word(home, boot.Receiver) != c.root { // whose words StoreField changes
			c.sound("steps by chance")
		}
	}
	for op := range 20 {
		if told[[2]int{op, 0}] < 50 {
			t.Errorf("the test tries too little of Op %d: %v", op, told)
		}
	}
}

// machine: runs a context's instructions as they come, with answers and truths by chance, and goes into each block that it meets.
type machine struct {
	*world
	r     *rand.Rand
	steps int
}

// run: up to an end, or so many steps; each has to be done.
func (m *machine) run(context api.Word) {
	m.t.Helper()
	for range 400 {
		if m.h.Free() < 1000 || m.t.Failed() {
			return
		}
		f, _ := frame.Open(m.h, m.root, context)
		i, _, _ := f.Next()
		if i.Op == code.JumpTrue || i.Op == code.JumpFalse {
			f.Pop() // a truth in its stead
			f.Push(m.special(sound.True + m.r.Intn(2)))
		}
		line := Text(m.h, m.root, context)
		a, e := Step(m.h, m.root, context)
		if e != api.OK {
			m.t.Errorf("P21.2: Step of %q: %d", line, e)
		}
		m.steps++
		switch a.Kind {
		case Sends, Supers:
			f.Drop(a.Args + 1)
			f.Push(num(int64(m.r.Intn(9))))
		case Returns, Ends, Refused:
			return
		}
		if i.Op == code.Block {
			block, _ := f.Peek(0)
			m.enter(block, context)
		}
	}
}

// enter: a block, with as many arguments as it has parameters.
func (m *machine) enter(block, sender api.Word) {
	m.t.Helper()
	count, _ := value(m.word(block, 2))
	c, e := frame.Enter(m.h, m.root, block, sender, slices.Repeat([]api.Word{num(1)}, count)...)
	if e != api.OK {
		m.t.Errorf("frame.Enter: %d", e)
		return
	}
	m.run(c)
}

// P21.2: methods that were compiled.
func TestCompiled(t *testing.T) {
	w := newWorld(t)
	steps := 0
	for _, method := range append(w.methods("P"), w.methods("Q")...) {
		for seed := range int64(40) {
			m := &machine{w.copied(6000), rand.New(rand.NewSource(seed)), 0}
			p := m.alloc("Q", head.Fields, num(1), num(2), num(3), num(4))
			c, e := boot.Context(m.h, m.root, method, p, m.nothing())
			if e != api.OK {
				t.Fatalf("boot.Context: %d", e)
			}
			m.run(c)
			m.sound("steps")
			steps += m.steps
		}
	}
	if steps < 5000 {
		t.Errorf("the test tries too little: %d steps", steps)
	}
}

// P21.2: code by chance that is right.
func TestRightCode(t *testing.T) {
	w := newWorld(t)
	right, steps := 0, 0
	for seed := range int64(60000) {
		r := rand.New(rand.NewSource(seed))
		var b []byte
		for range 1 + r.Intn(7) {
			i := someInstr(r)
			if i.Op != code.Block || r.Intn(2) == 0 {
				b = append(b, encoded(t, i)...)
				continue
			}
			inner := encoded(t, code.Instr{Op: code.PushNil}, someInstr(r), code.Instr{Op: code.End})
			b = append(b, encoded(t, code.Instr{Op: code.Block, A: i.A % 4, B: len(inner)})...)
			b = append(b, inner...)
		}
		b = append(b, encoded(t, code.Instr{Op: code.PushSelf}, code.Instr{Op: code.Return})...)
		places, e := code.Check(b, 4, 3, 4)
		if e != api.OK {
			continue
		}
		right++
		m := &machine{w.copied(4000), r, 0}
		p := m.alloc("Q", head.Fields, num(1), num(2), num(3), num(4))
		m.run(m.context(m.like(3, places, []api.Word{num(1), num(2), num(3), num(4)}, b...), p, 0))
		steps += m.steps
		if t.Failed() {
			t.Fatalf("seed %d: %x", seed, b)
		}
	}
	if right < 1000 || steps < 8000 {
		t.Errorf("the test tries too little: %d codes, %d steps", right, steps)
	}
}

// any: does each call end, and has nothing changed where it told an error?
func anyMemory(t *testing.T, h *heap.Heap, root api.Word, xs ...api.Word) int {
	t.Helper()
	done := 0
	for _, x := range xs {
		before := h.Clone()
		Text(h, root, x)
		if !h.Clone().Same(before) {
			t.Fatalf("P21.3: Text has changed memory")
		}
		for range 3 {
			before := h.Clone()
			a, e := Step(h, root, x)
			if e == api.OK {
				done++
				continue
			}
			if a != (Action{}) || !h.Clone().Same(before) {
				t.Fatalf("P21.4: beside the error %d is %v, or memory has changed", e, a)
			}
			break
		}
	}
	return done
}

// Memory that is empty, or none.
func TestNoMemory(t *testing.T) {
	empty, _ := heap.New(16)
	full, _ := heap.New(100)
	full.Alloc(4, 1, 30, 4)
	full.Alloc(4, 2, 100, 4)
	full.Alloc(2, 0, 3, 66)
	for _, h := range []*heap.Heap{nil, {}, empty, full} {
		for _, root := range []api.Word{0, 1, 2, 4, 68, 98, 1 << 63, math.MaxUint64} {
			anyMemory(t, h, root, 0, 1, 2, 3, 4, 66, 68, 98, 1<<30, 1<<63, math.MaxUint64)
		}
	}
}

// peopled: memory with contexts of each instruction, and these.
func peopled(t *testing.T) (*world, []api.Word) {
	w := newWorld(t)
	var some []api.Word
	p := w.instance()
	for op := range 20 {
		m := w.like(1, 3, []api.Word{w.root}, append(encoded(t, code.Instr{Op: op}), 1, 18)...)
		home := w.context(m, p, 0, num(1), w.special(sound.True+op%2))
		some = append(some, home)
		if op%3 == 0 {
			some = append(some, w.inner(home, 0, 1, w.special(sound.True+op%2)))
		}
	}
	return w, some
}

// Cut behind each object, and changed word by word.
func TestAnyMemory(t *testing.T) {
	w, some := peopled(t)
	words := w.h.Words()
	for cut := range len(words) {
		if h, e := heap.Load(w.h.Used()+50, 0, words[:cut]...); e == api.OK {
			anyMemory(t, h, w.root, some...)
		}
	}
	loaded, done := 0, 0
	first, _ := head.At(w.root)
	people, _ := head.At(some[0])
	for at := range words {
		// All words of the root; of the others some, of what contexts are made of more.
		if (at < first-2 || at > first+sound.Special) && at%7 > 0 && (at < people || at%2 > 0) {
			continue
		}
		for i, x := range []api.Word{0, 1, 4, 9, words[at] + 2, words[at] ^ 1<<33, w.root, some[0], some[1], 1 << 63} {
			other := slices.Clone(words)
			other[at] = x
			h, e := heap.Load(w.h.Used()+20+i, 0, other...)
			if e != api.OK {
				continue
			}
			loaded++
			done += anyMemory(t, h, w.root, some[(at+i)%len(some)], some[(at+i+1)%len(some)], some[(at+i+2)%len(some)], x)
		}
	}
	if loaded < 2000 || done < 2000 {
		t.Errorf("the test tries too little: %d, %d", loaded, done)
	}
}

// Many words are others.
func TestStrangeMemory(t *testing.T) {
	w, some := peopled(t)
	all := []api.Word{}
	for p := w.h.First(); p != 0; p = w.h.After(p) {
		all = append(all, p)
	}
	done := 0
	for seed := range int64(1500) {
		r := rand.New(rand.NewSource(seed))
		c := w.copied(r.Intn(60))
		one := func() api.Word {
			switch r.Intn(4) {
			case 0:
				return []api.Word{0, 1, 2, 3, 7, 99, 1 << 40}[r.Intn(7)]
			case 1:
				return some[r.Intn(len(some))]
			}
			return all[r.Intn(len(all))]
		}
		for range 1 + r.Intn(12) {
			switch r.Intn(5) {
			case 0:
				c.h.SetClass(one(), one())
			case 1:
				c.h.Put(one(), r.Intn(30), one())
			default:
				c.h.Put(some[r.Intn(len(some))], r.Intn(9), one())
			}
		}
		done += anyMemory(t, c.h, w.root, append(slices.Clone(some), one(), one())...)
	}
	if done < 1000 {
		t.Errorf("the test tries too little: %d", done)
	}
}
