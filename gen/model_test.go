package gen

import (
	"math/rand"
	"reflect"
	"strings"

	"foundling/api"
	"foundling/code"
	"foundling/scope"
)

// model: after the words of the chapter. All jumps say how far they go, so that each part's code is the same wherever it stands.
type model struct {
	lits  []scope.Item
	isBig bool
}

func (m *model) lit(i scope.Item) byte {
	i = plain(i)
	for n, known := range m.lits {
		if reflect.DeepEqual(known, i) {
			return byte(n)
		}
	}
	m.lits = append(m.lits, i)
	if len(m.lits) > 200 {
		m.isBig = true
	}
	return byte(len(m.lits) - 1)
}

// plain: what counts of a literal.
func plain(i scope.Item) scope.Item {
	out := scope.Item{Kind: i.Kind, Name: i.Name, Num: i.Num}
	for _, kid := range i.Kids {
		out.Kids = append(out.Kids, plain(kid))
	}
	return out
}

// two: a number as two bytes.
func (m *model) two(n int) string {
	if n > 32767 || n < -32767 {
		m.isBig = true
	}
	return string([]byte{byte(n), byte(n >> 8)})
}

func (m *model) jump(op, far int) string { return string([]byte{byte(op)}) + m.two(far) }

func (m *model) method(body []scope.Item) string {
	var list []string
	for _, i := range body {
		list = append(list, m.statement(i))
		if i.Kind != scope.Return {
			list = append(list, "\x0a")
		}
	}
	if len(body) == 0 || body[len(body)-1].Kind != scope.Return {
		list = append(list, "\x00\x12")
	}
	return strings.Join(list, "")
}

func (m *model) statement(i scope.Item) string {
	if i.Kind == scope.Return {
		return m.value(i.Kids[0]) + "\x12"
	}
	return m.value(i)
}

func (m *model) body(b scope.Item) string {
	out := ""
	for slot := b.Slot + int(b.Num); slot < b.Slot+b.Width; slot++ {
		out += "\x01\x08" + string([]byte{byte(slot)}) + "\x0a"
	}
	if len(b.Kids) == 0 {
		return out + "\x01"
	}
	var list []string
	for _, i := range b.Kids {
		list = append(list, m.statement(i))
	}
	return out + strings.Join(list, "\x0a")
}

func (m *model) block(b scope.Item) string {
	in := ""
	for slot := b.Slot + int(b.Num) - 1; slot >= b.Slot; slot-- {
		in += "\x08" + string([]byte{byte(slot)}) + "\x0a"
	}
	in += m.body(b)
	if len(b.Kids) == 0 || b.Kids[len(b.Kids)-1].Kind != scope.Return {
		in += "\x13"
	}
	return "\x11" + string([]byte{byte(b.Num)}) + m.two(len(in)) + in
}

// of: an Op with a number.
func of(op, a int) string { return string([]byte{byte(op), byte(a)}) }

func (m *model) value(i scope.Item) string {
	switch i.Kind {
	case scope.Int, scope.Text, scope.Symbol, scope.List, scope.Global:
		if i.Kind == scope.Int && i.Num > -129 && i.Num < 128 {
			return of(4, int(i.Num))
		}
		return string([]byte{7, m.lit(i)})
	case scope.Nil, scope.True, scope.False, scope.Self:
		return map[int]string{scope.Self: "\x00", scope.Nil: "\x01", scope.True: "\x02", scope.False: "\x03"}[i.Kind]
	case scope.Temp:
		return of(5, i.Slot)
	case scope.Field:
		return of(6, i.Slot)
	case scope.SetTemp:
		return m.value(i.Kids[0]) + of(8, i.Slot)
	case scope.SetField:
		return m.value(i.Kids[0]) + of(9, i.Slot)
	case scope.Block:
		return m.block(i)
	case scope.Cascade:
		out := m.value(i.Kids[0].Kids[0])
		for _, message := range i.Kids[:len(i.Kids)-1] {
			out += "\x0b" + m.sent(12, message) + "\x0a"
		}
		return out + m.sent(12, i.Kids[len(i.Kids)-1])
	case scope.SuperSend:
		return "\x00" + m.sent(13, i)
	}
	if m.isInLine(i) {
		return m.inLine(i)
	}
	return m.value(i.Kids[0]) + m.sent(12, i)
}

func (m *model) sent(op int, i scope.Item) string {
	out := ""
	for _, argument := range i.Kids[1:] {
		out += m.value(argument)
	}
	return out + string([]byte{byte(op), m.lit(scope.Item{Kind: scope.Symbol, Name: i.Name}), byte(len(i.Kids) - 1)})
}

func (m *model) isInLine(i scope.Item) bool {
	list := " ifTrue:/1 ifFalse:/1 ifTrue:ifFalse:/2 ifFalse:ifTrue:/2 and:/1 or:/1 whileTrue:/1 whileFalse:/1 whileTrue/0 whileFalse/0 "
	if !strings.Contains(list, " "+i.Name+"/"+string(rune('0'+len(i.Kids)-1))+" ") {
		return false
	}
	for n, kid := range i.Kids {
		if (n > 0 || strings.HasPrefix(i.Name, "while")) && (kid.Kind != scope.Block || kid.Num != 0) {
			return false
		}
	}
	return true
}

func (m *model) inLine(i scope.Item) string {
	first := 16
	if strings.HasPrefix(i.Name, "ifFalse:") || i.Name == "or:" || strings.HasPrefix(i.Name, "whileFalse") {
		first = 15
	}
	if strings.HasPrefix(i.Name, "while") {
		r, b := m.body(i.Kids[0]), ""
		if len(i.Kids) == 2 {
			b = m.body(i.Kids[1]) + "\x0a"
		}
		return r + m.jump(first, len(b)+3) + b + m.jump(14, -len(r)-len(b)-6) + "\x01"
	}
	r, b, other := m.value(i.Kids[0]), m.body(i.Kids[1]), map[string]string{"and:": "\x03", "or:": "\x02"}[i.Name]
	if other == "" {
		other = "\x01"
	}
	if len(i.Kids) == 3 {
		other = m.body(i.Kids[2])
	}
	return r + m.jump(first, len(b)+3) + b + m.jump(14, len(other)) + other
}

// modelCompile: of a Code whose parts are as they may be.
func modelCompile(c scope.Code) (Out, api.Errno) {
	m := &model{}
	b := []byte(m.method(c.Body))
	if m.isBig || len(b) > 16384 {
		return Out{}, api.ErrSize
	}
	stack := walked(b)
	if stack > 200 {
		return Out{}, api.ErrSize
	}
	return Out{Name: c.Name, Args: c.Args, Slots: c.Slots, Prim: c.Prim, Stack: stack, Lits: m.lits, Code: b}, api.OK
}

// walked: the greatest depth that there is, by walking the code whichever way it may go; -1, if it takes more than there is, or comes to a place with two depths.
func walked(b []byte) int {
	depths := map[int]int{}
	most := 0
	type place struct{ at, depth int }
	open := []place{{0, 0}}
	for len(open) > 0 {
		p := open[len(open)-1]
		open = open[:len(open)-1]
		if before, seen := depths[p.at]; seen {
			if before != p.depth {
				return -1
			}
			continue
		}
		depths[p.at] = p.depth
		i, behind, e := code.Decode(b, p.at)
		takes, puts := effect(i)
		if e != api.OK || p.depth < takes {
			return -1
		}
		depth := p.depth - takes + puts
		most = max(most, p.depth, depth)
		switch i.Op {
		case code.Return, code.End:
			continue
		case code.Jump:
			open = append(open, place{behind + i.A, depth})
			continue
		case code.JumpTrue, code.JumpFalse:
			open = append(open, place{behind + i.A, depth})
		case code.Block:
			open = append(open, place{behind, i.A})
			behind += i.B
		}
		open = append(open, place{behind, depth})
	}
	return most
}

// effect: how much an instruction takes and puts.
func effect(i code.Instr) (int, int) {
	switch i.Op {
	case code.StoreTemp, code.StoreField:
		return 1, 1
	case code.Pop, code.JumpTrue, code.JumpFalse, code.Return, code.End:
		return 1, 0
	case code.Dup:
		return 1, 2
	case code.Send, code.SuperSend:
		return i.B + 1, 1
	case code.Jump:
		return 0, 0
	}
	return 0, 1
}

// maker: of Codes by chance, whose parts stand where they may; how many slots they use.
type maker struct {
	*rand.Rand
	slots int
}

var messages = []string{"foo", "bar", "ifTrue:", "ifFalse:", "ifTrue:ifFalse:", "ifFalse:ifTrue:", "and:", "or:", "whileTrue:", "whileFalse:", "whileTrue", "whileFalse", "at:put:", "+", "ifTrue", "ifTrue:ifTrue:", "value:"}

func (m *maker) message() (string, int) {
	name := messages[m.Intn(len(messages))]
	if name == "+" {
		return name, 1
	}
	return name, strings.Count(name, ":")
}

func (m *maker) number() int64 {
	return []int64{-129, -128, 127, 128, 0, 5, 1000, -1000, api.MaxInt, api.MinInt, m.Int63n(400) - 200}[m.Intn(11)]
}

func (m *maker) anyName() string {
	return []string{"a", "b", "foo", "at:put:", "", "Object", "1"}[m.Intn(7)]
}

func (m *maker) slot() int {
	slot := m.Intn(20)
	m.slots = max(m.slots, slot+1)
	return slot
}

// value: so many parts within one another at most.
func (m *maker) value(deep int) scope.Item {
	kind := 1 + m.Intn(17)
	if deep <= 1 {
		kind = []int{scope.Int, scope.Text, scope.Symbol, scope.Nil, scope.True, scope.False, scope.Self, scope.Global, scope.Temp, scope.Field}[m.Intn(10)]
	}
	i := scope.Item{Kind: kind}
	switch kind {
	case scope.Int:
		i.Num = m.number()
	case scope.Text, scope.Symbol, scope.Global:
		i.Name = m.anyName()
	case scope.List:
		return m.list(deep)
	case scope.Temp:
		i.Slot = m.slot()
	case scope.Field:
		i.Slot = m.Intn(256)
	case scope.SetTemp:
		i.Slot, i.Kids = m.slot(), []scope.Item{m.value(deep - 1)}
	case scope.SetField:
		i.Slot, i.Kids = m.Intn(256), []scope.Item{m.value(deep - 1)}
	case scope.Send:
		return m.send(deep, m.receiver(deep))
	case scope.SuperSend:
		i = m.send(deep, scope.Item{Kind: scope.Self})
		i.Kind = scope.SuperSend
	case scope.Cascade:
		i.Kids = []scope.Item{m.send(deep-1, m.receiver(deep-1))}
		for range 1 + m.Intn(3) {
			i.Kids = append(i.Kids, m.send(deep-1, scope.Item{Kind: scope.Hole}))
		}
	case scope.Block:
		return m.block(deep)
	}
	return i
}

// receiver: often a block, as loops ask for one.
func (m *maker) receiver(deep int) scope.Item {
	if m.Intn(3) == 0 {
		return m.block(deep - 1)
	}
	return m.value(deep - 1)
}

func (m *maker) send(deep int, receiver scope.Item) scope.Item {
	name, count := m.message()
	i := scope.Item{Kind: scope.Send, Name: name, Kids: []scope.Item{receiver}}
	for range count {
		if m.Intn(4) > 0 {
			i.Kids = append(i.Kids, m.block(deep-1))
		} else {
			i.Kids = append(i.Kids, m.value(deep-1))
		}
	}
	return i
}

func (m *maker) list(deep int) scope.Item {
	i := scope.Item{Kind: scope.List}
	for range m.Intn(4) {
		kid := scope.Item{Kind: []int{scope.Int, scope.Text, scope.Symbol, scope.Nil, scope.True, scope.False}[m.Intn(6)]}
		switch kid.Kind {
		case scope.Int:
			kid.Num = m.Int63n(3)
		case scope.Text, scope.Symbol:
			kid.Name = m.anyName()
		}
		if deep > 1 && m.Intn(4) == 0 {
			kid = m.list(deep - 1)
		}
		i.Kids = append(i.Kids, kid)
	}
	return i
}

func (m *maker) block(deep int) scope.Item {
	i := scope.Item{Kind: scope.Block, Slot: m.slot(), Width: []int{0, 0, 0, 1, 2, 3}[m.Intn(6)]}
	if i.Width > 0 && m.Intn(2) == 0 {
		i.Num = m.Int63n(int64(i.Width) + 1)
	}
	m.slots = max(m.slots, i.Slot+i.Width)
	i.Kids = m.statements(deep - 1)
	return i
}

func (m *maker) statements(deep int) []scope.Item {
	var out []scope.Item
	for range []int{0, 1, 1, 1, 2, 3}[m.Intn(6)] {
		out = append(out, m.value(deep))
	}
	if m.Intn(4) == 0 {
		out = append(out, scope.Item{Kind: scope.Return, Kids: []scope.Item{m.value(deep - 1)}})
	}
	return out
}

func (m *maker) code() scope.Code {
	m.slots = m.Intn(3)
	c := scope.Code{Name: m.anyName(), Args: m.slots, Prim: m.Intn(3)}
	c.Body = m.statements(1 + m.Intn(8))
	c.Slots = m.slots + m.Intn(3)
	return c
}
