package scope

import (
	"slices"

	"foundling/api"
	"foundling/tree"
)

// super: the name that stands for an object only where a message is sent to it.
const super = "super"

// fault: what resolving gives up with.
type fault struct {
	e  api.Errno
	at int
}

// slot: its number, and whether it is a variable's: a parameter's is never assigned.
type slot struct {
	number     int
	isVariable bool
}

// resolver: what names mean at the node to which it has come, and the next slot that is free.
type resolver struct {
	fields, globals []string
	slots           map[string]slot
	free            int
}

// giveUp: by a panic that Resolve catches.
func (r *resolver) giveUp(e api.Errno, at int) { panic(fault{e, at}) }

// declare: names of the method, or of a block, the first of them parameters, get slots. Of several errors of one name the least is told.
func (r *resolver) declare(names []string, params, at int) {
	for i, name := range names {
		isVariable := i >= params
		switch {
		case r.free == api.MaxTemps || i == api.MaxArgs && !isVariable:
			r.giveUp(api.ErrSize, at)
		case r.isThere(name):
			r.giveUp(api.ErrThere, at)
		case isReserved(name):
			r.giveUp(api.ErrScope, at)
		}
		r.slots[name] = slot{r.free, isVariable}
		r.free++
	}
}

// isReserved: a name that no variable may have?
func isReserved(name string) bool { return name == super || kindOfName(name) != 0 }

// kindOfName: what a name is, whatever else has it; 0: nothing of that kind.
func kindOfName(name string) int {
	switch name {
	case "nil":
		return Nil
	case "true":
		return True
	case "false":
		return False
	case "self":
		return Self
	}
	return 0
}

// isThere: does a name mean a slot, or a field?
func (r *resolver) isThere(name string) bool {
	_, isSlot := r.slots[name]
	_, isField := r.field(name)
	return isSlot || isField
}

// field: the number of the last one of this name.
func (r *resolver) field(name string) (number int, isField bool) {
	for i, field := range slices.Backward(r.fields) {
		if field == name {
			return i, true
		}
	}
	return 0, false
}

// items: one behind the other.
func (r *resolver) items(nodes []tree.Node) []Item {
	var list []Item
	for _, n := range nodes {
		list = append(list, r.item(n))
	}
	return list
}

func (r *resolver) item(n tree.Node) Item {
	switch n.Kind {
	case tree.List:
		return Item{Kind: List, Kids: r.items(n.Kids)}
	case tree.Var:
		return r.variable(n)
	case tree.Assign:
		return r.assign(n)
	case tree.Send:
		return r.send(n)
	case tree.Cascade:
		return r.cascade(n)
	case tree.Block:
		return r.block(n)
	case tree.Return:
		return Item{Kind: Return, Kids: r.items(n.Kids)}
	}
	return leaf(n)
}

// leaf: what has no kids, and no names to resolve.
func leaf(n tree.Node) Item {
	switch n.Kind {
	case tree.Int:
		return Item{Kind: Int, Num: n.Num}
	case tree.Text:
		return Item{Kind: Text, Name: n.Name}
	case tree.Symbol:
		return Item{Kind: Symbol, Name: n.Name}
	}
	return Item{Kind: Hole}
}

// variable: what its name means.
func (r *resolver) variable(n tree.Node) Item {
	if kind := kindOfName(n.Name); kind != 0 {
		return Item{Kind: kind}
	}
	if s, isSlot := r.slots[n.Name]; isSlot {
		return Item{Kind: Temp, Slot: s.number}
	}
	if number, isField := r.field(n.Name); isField {
		return Item{Kind: Field, Slot: number}
	}
	if n.Name == super || !slices.Contains(r.globals, n.Name) {
		r.giveUp(api.ErrScope, n.At)
	}
	return Item{Kind: Global, Name: n.Name}
}

// assign: to what its name means, if that may be assigned.
func (r *resolver) assign(n tree.Node) Item {
	s, isSlot := r.slots[n.Name]
	number, isField := r.field(n.Name)
	switch {
	case isSlot && s.isVariable:
		return Item{Kind: SetTemp, Slot: s.number, Kids: r.items(n.Kids)}
	case !isSlot && isField && !isReserved(n.Name):
		return Item{Kind: SetField, Slot: number, Kids: r.items(n.Kids)}
	}
	r.giveUp(api.ErrScope, n.At)
	return Item{}
}

// send: a message; to super it is another one, which self gets.
func (r *resolver) send(n tree.Node) Item {
	if !isSuper(n.Kids[0]) {
		return r.sent(n)
	}
	r.count(n)
	return Item{Kind: SuperSend, Name: n.Name, Kids: append([]Item{{Kind: Self}}, r.items(n.Kids[1:])...)}
}

func isSuper(n tree.Node) bool { return n.Kind == tree.Var && n.Name == super }

// sent: a message to anything, of which a super is a name as others are.
func (r *resolver) sent(n tree.Node) Item {
	r.count(n)
	return Item{Kind: Send, Name: n.Name, Kids: r.items(n.Kids)}
}

// count: has a message too many arguments?
func (r *resolver) count(n tree.Node) {
	if len(n.Kids)-1 > api.MaxArgs {
		r.giveUp(api.ErrSize, n.At)
	}
}

// cascade: several messages to one, which has to be an object.
func (r *resolver) cascade(n tree.Node) Item {
	first := r.sent(n.Kids[0])
	return Item{Kind: Cascade, Kids: append([]Item{first}, r.items(n.Kids[1:])...)}
}

// block: its names mean something till it is over; their slots stay taken.
func (r *resolver) block(n tree.Node) Item {
	b := Item{Kind: Block, Num: n.Num, Slot: r.free, Width: len(n.Names)}
	r.declare(n.Names, int(n.Num), n.At)
	b.Kids = r.items(n.Kids)
	for _, name := range n.Names {
		delete(r.slots, name)
	}
	return b
}
