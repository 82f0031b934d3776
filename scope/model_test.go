package scope

import (
	"math/rand"
	"strings"

	"foundling/api"
	"foundling/tree"
)

// known: a name that means a slot, and those that did so ahead of it.
type known struct {
	name       string
	slot       int
	isVariable bool
	before     *known
}

func (k *known) find(name string) *known {
	for ; k != nil; k = k.before {
		if k.name == name {
			return k
		}
	}
	return nil
}

// wrong: a name, or a Node, of which errors are told, and the least of them.
type wrong struct {
	at int
	e  api.Errno
}

// model: after the words of the chapter: all that is wrong, in the order in which it stands.
type model struct {
	fields, globals []string
	slots           int
	wrongs          []wrong
}

// tell: the errors of one name, or Node, that apply.
func (m *model) tell(at int, size, there, scope bool) {
	switch {
	case size:
		m.wrongs = append(m.wrongs, wrong{at, api.ErrSize})
	case there:
		m.wrongs = append(m.wrongs, wrong{at, api.ErrThere})
	case scope:
		m.wrongs = append(m.wrongs, wrong{at, api.ErrScope})
	}
}

// last: the number of the last one of a name, or -1.
func last(list []string, name string) int {
	for i := len(list) - 1; i >= 0; i-- {
		if list[i] == name {
			return i
		}
	}
	return -1
}

func isOwn(name string) bool {
	return strings.Contains(" self super nil true false ", " "+name+" ")
}

func (m *model) names(list []string, params, at int, k *known) *known {
	for i, name := range list {
		m.tell(at, m.slots >= 60 || i < params && i >= 12, k.find(name) != nil || last(m.fields, name) >= 0, isOwn(name))
		k = &known{name, m.slots, i >= params, k}
		m.slots++
	}
	return k
}

func (m *model) all(list []tree.Node, k *known) []Item {
	var out []Item
	for _, n := range list {
		out = append(out, m.one(n, k, false))
	}
	return out
}

// one: a Node; is it a Cascade's first one?
func (m *model) one(n tree.Node, k *known, isFirst bool) Item {
	kinds := map[int]int{tree.Int: Int, tree.Text: Text, tree.Symbol: Symbol, tree.List: List, tree.Send: Send, tree.Cascade: Cascade, tree.Block: Block, tree.Return: Return, tree.Hole: Hole}
	out := Item{Kind: kinds[n.Kind], Name: n.Name, Num: n.Num}
	switch n.Kind {
	case tree.Var:
		return m.meant(n, k)
	case tree.Assign:
		return m.assigned(n, k)
	case tree.Send:
		m.tell(n.At, len(n.Kids) > 13, false, false)
		if !isFirst && n.Kids[0].Kind == tree.Var && n.Kids[0].Name == "super" {
			out.Kind, out.Kids = SuperSend, append([]Item{{Kind: Self}}, m.all(n.Kids[1:], k)...)
			return out
		}
	case tree.Block:
		out.Slot, out.Width = m.slots, len(n.Names)
		k = m.names(n.Names, int(n.Num), n.At, k)
	case tree.Cascade:
		out.Kids = append(out.Kids, m.one(n.Kids[0], k, true))
		out.Kids = append(out.Kids, m.all(n.Kids[1:], k)...)
		return out
	}
	out.Kids = m.all(n.Kids, k)
	return out
}

func (m *model) meant(n tree.Node, k *known) Item {
	own := map[string]int{"nil": Nil, "true": True, "false": False, "self": Self}
	if kind := own[n.Name]; kind > 0 {
		return Item{Kind: kind}
	}
	if s := k.find(n.Name); s != nil {
		return Item{Kind: Temp, Slot: s.slot}
	}
	if i := last(m.fields, n.Name); i >= 0 {
		return Item{Kind: Field, Slot: i}
	}
	m.tell(n.At, false, false, n.Name == "super" || last(m.globals, n.Name) < 0)
	return Item{Kind: Global, Name: n.Name}
}

func (m *model) assigned(n tree.Node, k *known) Item {
	s, field := k.find(n.Name), last(m.fields, n.Name)
	canBe := s != nil && s.isVariable || s == nil && field >= 0
	m.tell(n.At, false, false, isOwn(n.Name) || !canBe)
	if s != nil {
		return Item{Kind: SetTemp, Slot: s.slot, Kids: m.all(n.Kids, k)}
	}
	return Item{Kind: SetField, Slot: field, Kids: m.all(n.Kids, k)}
}

func modelResolve(t tree.Method, fields, globals []string) (Code, int, api.Errno) {
	if e := tree.Check(t); e != api.OK {
		return Code{}, t.At, e
	}
	m := &model{fields: fields, globals: globals}
	k := m.names(append(append([]string{}, t.Params...), t.Temps...), len(t.Params), t.At, nil)
	body := m.all(t.Body, k)
	if len(m.wrongs) > 0 {
		return Code{}, m.wrongs[0].at, m.wrongs[0].e
	}
	return Code{t.Name, len(t.Params), m.slots, t.Prim, body}, 0, api.OK
}

// maker: of methods by chance. Names it gives mostly so that they mean something; now and then, if it spoils, it takes any.
type maker struct {
	*rand.Rand
	spoils          bool
	fields, globals []string
	slots           int
}

func (m *maker) isOdd() bool { return m.spoils && m.Intn(40) == 0 }

func (m *maker) anyName() string {
	list := []string{"a", "b", "c", "d", "x", "self", "super", "nil", "true", "false", "Object"}
	return list[m.Intn(len(list))]
}

// declared: some names that aren't there.
func (m *maker) declared(count int, k *known) ([]string, *known) {
	var out []string
	for range count {
		name := "v" + string(rune('a'+m.Intn(8)))
		if m.isOdd() {
			name = m.anyName()
		} else if k.find(name) != nil || m.slots == 60 {
			continue
		}
		out = append(out, name)
		k = &known{name: name, before: k}
		m.slots++
	}
	return out, k
}

// mark: which of them are variables.
func mark(k *known, variables int) {
	for ; variables > 0; variables-- {
		k.isVariable = true
		k = k.before
	}
}

// readable: a name that means something.
func (m *maker) readable(k *known) string {
	if m.isOdd() {
		return m.anyName()
	}
	list := append([]string{"self", "nil", "true", "false"}, m.fields...)
	list = append(list, m.globals...)
	for range 3 {
		for s := k; s != nil; s = s.before {
			list = append(list, s.name)
		}
	}
	name := list[m.Intn(len(list))]
	if name == "super" && last(m.fields, name) < 0 {
		return "self"
	}
	return name
}

// writable: a name that may be assigned, if there is one.
func (m *maker) writable(k *known) string {
	if m.isOdd() {
		return m.anyName()
	}
	var list []string
	for _, name := range m.fields {
		if !isOwn(name) && k.find(name) == nil {
			list = append(list, name)
		}
	}
	for s := k; s != nil; s = s.before {
		if s.isVariable {
			list = append(list, s.name)
		}
	}
	if len(list) == 0 {
		return ""
	}
	return list[m.Intn(len(list))]
}

func (m *maker) at() int { return m.Intn(2000) - 1000 }

// value: of so many Nodes within one another at most.
func (m *maker) value(deep int, k *known) tree.Node {
	n := tree.Node{At: m.at()}
	kind := m.Intn(14)
	if deep <= 1 {
		kind = m.Intn(5)
	}
	switch {
	case kind == 0:
		n.Kind, n.Num = tree.Int, m.Int63n(1000)-500
	case kind == 1:
		n.Kind, n.Name = []int{tree.Text, tree.Symbol}[m.Intn(2)], m.anyName()
	case kind < 5:
		n.Kind, n.Name = tree.Var, m.readable(k)
	case kind == 5:
		return m.array(deep)
	case kind < 8 && m.writable(k) != "":
		n.Kind, n.Name, n.Kids = tree.Assign, m.writable(k), []tree.Node{m.value(deep-1, k)}
		if n.Name == "" {
			n.Name = "x"
		}
	case kind < 10:
		return m.block(deep, k)
	case kind == 10 && deep > 2:
		n.Kind, n.Kids = tree.Cascade, []tree.Node{m.send(deep-1, k, false)}
		for range 1 + m.Intn(2) {
			further := m.send(deep-1, k, false)
			further.Kids[0] = tree.Node{Kind: tree.Hole, At: m.at()}
			n.Kids = append(n.Kids, further)
		}
	default:
		return m.send(deep, k, true)
	}
	return n
}

func (m *maker) send(deep int, k *known, mayBeSuper bool) tree.Node {
	count := []int{0, 0, 1, 1, 2, 3}[m.Intn(6)]
	if m.Intn(30) == 0 {
		count = 12
	}
	if m.isOdd() {
		count = 13
	}
	n := tree.Node{Kind: tree.Send, Name: messageOf(count), At: m.at()}
	n.Kids = append(n.Kids, m.value(deep-1, k))
	if (mayBeSuper || m.isOdd()) && m.Intn(5) == 0 {
		n.Kids[0] = tree.Node{Kind: tree.Var, Name: "super", At: m.at()}
	}
	for range count {
		n.Kids = append(n.Kids, m.value(deep-1, k))
	}
	return n
}

// messageOf: a name of a message with so many arguments.
func messageOf(count int) string {
	if count == 0 {
		return "foo"
	}
	return strings.Repeat("a:", count)
}

func (m *maker) array(deep int) tree.Node {
	n := tree.Node{Kind: tree.List, At: m.at()}
	for range m.Intn(4) {
		if deep > 2 && m.Intn(3) == 0 {
			n.Kids = append(n.Kids, m.array(deep-1))
			continue
		}
		kid := tree.Node{At: m.at()}
		switch m.Intn(3) {
		case 0:
			kid.Kind, kid.Num = tree.Int, m.Int63n(9)
		case 1:
			kid.Kind, kid.Name = []int{tree.Text, tree.Symbol}[m.Intn(2)], m.anyName()
		case 2:
			kid.Kind, kid.Name = tree.Var, []string{"nil", "true", "false"}[m.Intn(3)]
		}
		n.Kids = append(n.Kids, kid)
	}
	return n
}

func (m *maker) block(deep int, k *known) tree.Node {
	n := tree.Node{Kind: tree.Block, At: m.at()}
	n.Names, k = m.declared([]int{0, 0, 1, 1, 2, 3}[m.Intn(6)], k)
	n.Num = m.Int63n(int64(len(n.Names)) + 1)
	mark(k, len(n.Names)-int(n.Num))
	n.Kids = m.statements(deep-1, k)
	return n
}

func (m *maker) statements(deep int, k *known) []tree.Node {
	var out []tree.Node
	for range m.Intn(4) {
		out = append(out, m.value(deep, k))
	}
	if deep > 1 && m.Intn(3) == 0 {
		out = append(out, tree.Node{Kind: tree.Return, Kids: []tree.Node{m.value(deep-1, k)}, At: m.at()})
	}
	return out
}

// method: with its fields and globals.
func (m *maker) method() (tree.Method, []string, []string) {
	m.fields, m.globals, m.slots = m.some("a", "b", "c", "a", "self", "super", "nil"), m.some("Object", "b", "x", "Y", "va", "super", "true"), 0
	params, k := m.declared(m.Intn(4), nil)
	temps, k := m.declared(m.Intn(4), k)
	mark(k, len(temps))
	out := tree.Method{Name: messageOf(len(params)), Params: params, Temps: temps, Prim: m.Intn(3), At: m.at()}
	out.Body = m.statements(2+m.Intn(6), k)
	return out, m.fields, m.globals
}

// some: of these.
func (m *maker) some(list ...string) []string {
	var out []string
	for range m.Intn(5) {
		out = append(out, list[m.Intn(len(list))])
	}
	return out
}
