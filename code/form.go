package code

// operand: an A or a B: of how many bytes, and the least of the numbers that these can say. Of no bytes it is 0.
type operand struct{ size, least int }

// form: what an instruction is like: its name, its operands, how many words it takes (of a message: its arguments are more), how many it puts.
type form struct {
	name        string
	a, b        operand
	takes, puts int
}

// forms: by Op.
var forms = [...]form{
	PushSelf:   {name: "PushSelf", puts: 1},
	PushNil:    {name: "PushNil", puts: 1},
	PushTrue:   {name: "PushTrue", puts: 1},
	PushFalse:  {name: "PushFalse", puts: 1},
	PushSmall:  {name: "PushSmall", a: operand{1, -128}, puts: 1},
	PushTemp:   {name: "PushTemp", a: operand{1, 0}, puts: 1},
	PushField:  {name: "PushField", a: operand{1, 0}, puts: 1},
	PushLit:    {name: "PushLit", a: operand{1, 0}, puts: 1},
	StoreTemp:  {name: "StoreTemp", a: operand{1, 0}, takes: 1, puts: 1},
	StoreField: {name: "StoreField", a: operand{1, 0}, takes: 1, puts: 1},
	Pop:        {name: "Pop", takes: 1},
	Dup:        {name: "Dup", takes: 1, puts: 2},
	Send:       {name: "Send", a: operand{1, 0}, b: operand{1, 0}, takes: 1, puts: 1},
	SuperSend:  {name: "SuperSend", a: operand{1, 0}, b: operand{1, 0}, takes: 1, puts: 1},
	Jump:       {name: "Jump", a: operand{2, -32768}},
	JumpTrue:   {name: "JumpTrue", a: operand{2, -32768}, takes: 1},
	JumpFalse:  {name: "JumpFalse", a: operand{2, -32768}, takes: 1},
	Block:      {name: "Block", a: operand{1, 0}, b: operand{2, 0}, puts: 1},
	Return:     {name: "Return", takes: 1},
	End:        {name: "End", takes: 1},
}

// count: of the numbers that it can say.
func (o operand) count() int { return 1 << (8 * o.size) }

// has: can it say a number?
func (o operand) has(n int) bool { return n >= o.least && n < o.least+o.count() }

// put: a number, behind bytes, its lowest one first.
func (o operand) put(to []byte, n int) []byte {
	for i := range o.size {
		to = append(to, byte(n>>(8*i)))
	}
	return to
}

// get: the number that bytes say.
func (o operand) get(b []byte) int {
	n := 0
	for i := range o.size {
		n |= int(b[i]) << (8 * i)
	}
	if !o.has(n) {
		n -= o.count()
	}
	return n
}
