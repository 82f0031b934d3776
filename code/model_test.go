package code

import (
	"math/rand"

	"foundling/api"
)

// placed: an instruction in its part: where it begins, the place behind it, and that behind its block's code.
type placed struct {
	like
	at, a, b, behind, next int
}

// modelPart: the instructions of a part.
type modelPart struct {
	list    []placed
	isBlock bool
}

// model: after the words of the chapter: all parts, and which errors stand in the bytes.
type model struct {
	lits, slots, fields int
	parts               []modelPart
	errs                map[api.Errno]bool
}

func (m *model) part(b []byte, from, to int, isBlock bool) {
	var p modelPart
	p.isBlock = isBlock
	table := likes()
	starts := map[int]bool{}
	at := from
	for at < to {
		starts[at] = true
		if int(b[at]) >= len(table) {
			m.errs[api.ErrForm] = true
			break
		}
		x := placed{like: table[b[at]], at: at}
		x.behind = at + 1 + x.sizeA + x.sizeB
		if x.behind > to {
			m.errs[api.ErrEnd] = true
			break
		}
		x.a = read(b[at+1:at+1+x.sizeA], x.highA)
		x.b = read(b[at+1+x.sizeA:x.behind], x.highB)
		x.next = x.behind
		if x.op == Block {
			x.next += x.b
		}
		m.names(x)
		p.list = append(p.list, x)
		if x.next > to {
			m.errs[api.ErrEnd] = true
			break
		}
		at = x.next
	}
	for _, x := range p.list {
		if x.jumps && !starts[x.behind+x.a] {
			m.errs[api.ErrForm] = true
		}
	}
	m.parts = append(m.parts, p)
	for _, x := range p.list {
		if x.op == Block && x.next <= to {
			m.part(b, x.behind, x.next, true)
		}
	}
}

// read: bytes, the lowest first, as a number of at most so much.
func read(b []byte, high int) int {
	n, count := 0, 1
	for _, c := range b {
		n += int(c) * count
		count *= 256
	}
	if n > high {
		n -= count
	}
	return n
}

// names: are they there?
func (m *model) names(x placed) {
	limits := map[int]int{PushLit: m.lits, Send: m.lits, SuperSend: m.lits, PushTemp: m.slots, StoreTemp: m.slots, PushField: m.fields, StoreField: m.fields}
	if most, isThere := limits[x.op]; isThere && x.a >= most {
		m.errs[api.ErrForm] = true
	}
}

// reached: an instruction, and a depth ahead of it.
type reached struct{ part, number, depth int }

// modelCheck: all instructions that are reached, with all depths, till nothing more comes of them.
func modelCheck(b []byte, lits, slots, fields int) (int, api.Errno) {
	m := &model{lits, slots, fields, nil, map[api.Errno]bool{}}
	m.part(b, 0, len(b), false)
	for _, e := range []api.Errno{api.ErrForm, api.ErrEnd} {
		if m.errs[e] {
			return 0, e
		}
	}
	states := map[reached]bool{{0, 0, 0}: true}
	for before := -1; before != len(states); {
		before = len(states)
		for s := range states {
			if !m.go1(states, s) {
				return 0, api.ErrForm
			}
		}
		if !m.areAlike(states) {
			return 0, api.ErrForm
		}
	}
	most := 0
	for s := range states {
		most = max(most, s.depth)
	}
	if most > 200 {
		return 0, api.ErrSize
	}
	return most, api.OK
}

// areAlike: has each one depth alone, and is it there?
func (m *model) areAlike(states map[reached]bool) bool {
	depths := map[[2]int]int{}
	for s := range states {
		where := [2]int{s.part, s.number}
		if depth, isThere := depths[where]; isThere && depth != s.depth || s.number >= len(m.parts[s.part].list) {
			return false
		}
		depths[where] = s.depth
	}
	return true
}

// go1: what one leads to; false: that may not be.
func (m *model) go1(states map[reached]bool, s reached) bool {
	p := m.parts[s.part]
	if s.number >= len(p.list) {
		return false
	}
	x := p.list[s.number]
	takes := x.takes
	if x.takesArguments {
		takes += x.b
	}
	if takes > s.depth || x.op == End && !p.isBlock {
		return false
	}
	depth := s.depth - takes + x.puts
	if !x.stops {
		states[reached{s.part, s.number + 1, depth}] = true
	}
	if x.jumps {
		states[reached{s.part, m.number(p, x.behind+x.a), depth}] = true
	}
	if x.op == Block {
		states[reached{m.partAt(x), 0, x.a}] = true
	}
	return true
}

// number: that of the instruction at a place.
func (m *model) number(p modelPart, at int) int {
	for i, x := range p.list {
		if x.at == at {
			return i
		}
	}
	return len(p.list)
}

// partAt: that of a block; of an empty one any that has none.
func (m *model) partAt(x placed) int {
	empty := -1
	for i, p := range m.parts {
		switch {
		case !p.isBlock:
		case len(p.list) == 0:
			empty = i
		case x.b > 0 && p.list[0].at == x.behind:
			return i
		}
	}
	return empty
}

// maker: writes code that is right for the most part, as methods become it.
type maker struct {
	r    *rand.Rand
	deep int
}

// pick: one of them by chance.
func pick[T any](r *rand.Rand, list ...T) T { return list[r.Intn(len(list))] }

func (w *maker) code(list ...Instr) []byte {
	b, e := Encode(list...)
	if e != api.OK {
		panic("no code")
	}
	return b
}

// value: code that puts one word.
func (w *maker) value() []byte {
	w.deep--
	defer func() { w.deep++ }()
	if w.deep < 0 {
		return w.code(w.leaf())
	}
	switch w.r.Intn(9) {
	case 0, 1:
		count := pick(w.r, 0, 0, 1, 2, 3)
		b := w.value()
		for range count {
			b = append(b, w.value()...)
		}
		return append(b, w.code(Instr{pick(w.r, Send, SuperSend), w.r.Intn(4), count})...)
	case 2:
		return append(w.value(), w.code(Instr{pick(w.r, StoreTemp, StoreField), w.r.Intn(4), 0})...)
	case 3:
		return append(append(w.value(), w.code(Instr{Op: Dup}, Instr{Op: Pop}, Instr{Op: Pop})...), w.value()...)
	case 4:
		return w.choice()
	case 5:
		return w.loop()
	case 6:
		return w.block()
	}
	return w.code(w.leaf())
}

func (w *maker) leaf() Instr {
	op := pick(w.r, PushSelf, PushNil, PushTrue, PushFalse, PushSmall, PushTemp, PushField, PushLit)
	if op < PushSmall {
		return Instr{Op: op}
	}
	return Instr{op, w.r.Intn(4), 0}
}

// choice: of two values.
func (w *maker) choice() []byte {
	first, second := w.value(), w.value()
	first = append(first, w.code(Instr{Jump, len(second), 0})...)
	b := append(w.value(), w.code(Instr{pick(w.r, JumpTrue, JumpFalse), len(first), 0})...)
	return append(append(b, first...), second...)
}

// loop: back to its beginning as long as a value is such.
func (w *maker) loop() []byte {
	b := append(w.value(), 0, 0, 0)
	from := len(b)
	b = append(append(b, w.value()...), Pop)
	b = append(b, w.code(Instr{Jump, -len(b) - 3, 0})...)
	copy(b[from-3:], w.code(Instr{pick(w.r, JumpTrue, JumpFalse), len(b) - from, 0}))
	return append(b, PushNil)
}

// block: of a few parameters, which it pops.
func (w *maker) block() []byte {
	count := w.r.Intn(3)
	var body []byte
	for range count {
		body = append(body, w.code(Instr{StoreTemp, w.r.Intn(4), 0}, Instr{Op: Pop})...)
	}
	body = append(append(body, w.value()...), byte(pick(w.r, End, End, Return)))
	return append(w.code(Instr{Block, count, len(body)}), body...)
}

// method: statements, and what is answered.
func (w *maker) method() []byte {
	var b []byte
	for range w.r.Intn(3) {
		b = append(append(b, w.value()...), Pop)
	}
	return append(append(b, w.value()...), Return)
}

func someCode(r *rand.Rand) []byte { return (&maker{r, 1 + r.Intn(4)}).method() }

// spoilt: such code with something else in it.
func spoilt(r *rand.Rand) []byte {
	b := someCode(r)
	for range 1 + r.Intn(2) {
		i := r.Intn(len(b))
		switch r.Intn(6) {
		case 0:
			b = b[:i+1]
		case 1:
			b[i] = byte(r.Intn(22))
		case 2:
			b[i] += byte(pick(r, 1, 255, 2, 254))
		case 3:
			b = append(b[:i], b[i+1:]...)
		case 4:
			b = append(b[:i], append([]byte{byte(r.Intn(20))}, b[i:]...)...)
		case 5:
			b = append(b[:i], append(someCode(r), b[i:]...)...)
		}
		if len(b) == 0 {
			return b
		}
	}
	return b
}

// soup: short code of any instructions, with jumps that are near.
func soup(r *rand.Rand) []byte {
	var b []byte
	for range r.Intn(9) {
		switch op := r.Intn(20); op {
		case Jump, JumpTrue, JumpFalse:
			b = append(b, byte(op))
			n := r.Intn(15) - 7
			b = append(b, byte(n), byte(n>>8))
		case Block:
			b = append(b, byte(op), byte(r.Intn(3)), byte(r.Intn(7)), 0)
		case Send, SuperSend:
			b = append(b, byte(op), byte(r.Intn(3)), byte(r.Intn(3)))
		case PushSmall, PushTemp, PushField, PushLit, StoreTemp, StoreField:
			b = append(b, byte(op), byte(r.Intn(4)))
		default:
			b = append(b, byte(op))
		}
	}
	if r.Intn(4) > 0 {
		b = append(b, byte(pick(r, Return, Return, End)))
	}
	return b
}
