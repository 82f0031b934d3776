package tree

import (
	"math/rand"
	"regexp"
	"strings"

	"foundling/api"
)

// The places where a Node may stand.
const (
	statement = iota
	lastStatement
	value
	element
	firstMessage
	furtherMessage
	hole
	nowhere
)

// allowed: which Kinds may stand at a place.
func allowed(place int) []int {
	values := []int{Int, Text, Symbol, List, Var, Assign, Send, Cascade, Block}
	switch place {
	case statement, value:
		return values
	case lastStatement:
		return append(values, Return)
	case element:
		return []int{Int, Text, Symbol, List, Var}
	case firstMessage, furtherMessage:
		return []int{Send}
	case hole:
		return []int{Hole}
	}
	return nil
}

// placeOf: where the Kid of number i stands, in a Node that stands at a place itself.
func placeOf(n Node, place, i int) int {
	switch n.Kind {
	case List:
		return element
	case Assign, Return:
		return value
	case Send:
		if place == furtherMessage && i == 0 {
			return hole
		}
		return value
	case Cascade:
		if i == 0 {
			return firstMessage
		}
		return furtherMessage
	case Block:
		if i == len(n.Kids)-1 {
			return lastStatement
		}
		return statement
	}
	return nowhere
}

var (
	formName     = regexp.MustCompile(`^[a-zA-Z][a-zA-Z0-9]*$`)
	formOp       = regexp.MustCompile(`^([-+*/\\~<>=&,@%?][+*/\\~<>=&,@%?]?|[|])$`)
	formKeywords = regexp.MustCompile(`^([a-zA-Z][a-zA-Z0-9]*:)+$`)
)

// modelArity: of a message's name.
func modelArity(s string) int {
	switch {
	case len(s) > 64:
		return -1
	case formName.MatchString(s):
		return 0
	case formOp.MatchString(s):
		return 1
	case formKeywords.MatchString(s):
		return strings.Count(s, ":")
	}
	return -1
}

// modelNames: may variables bear them?
func modelNames(list ...string) bool {
	for _, s := range list {
		if !formName.MatchString(s) || len(s) > 64 {
			return false
		}
	}
	return true
}

// modelNode: has a Node what its Kind asks for, whatever its Kids are?
func modelNode(n Node, place int) bool {
	named, numbered, parts, listed := n.Name != "", n.Num != 0, len(n.Kids), len(n.Names) > 0
	switch n.Kind {
	case Int:
		return !named && parts == 0 && !listed
	case Text, Symbol:
		return !numbered && parts == 0 && !listed
	case List:
		return !named && !numbered && !listed
	case Var:
		constant := n.Name == "true" || n.Name == "false" || n.Name == "nil"
		return modelNames(n.Name) && !numbered && parts == 0 && !listed && (place != element || constant)
	case Assign:
		return modelNames(n.Name) && !numbered && parts == 1 && !listed
	case Send:
		return !numbered && !listed && parts > 0 && modelArity(n.Name) == parts-1
	case Cascade:
		return !named && !numbered && !listed && parts >= 2
	case Block:
		return !named && n.Num >= 0 && n.Num <= int64(len(n.Names)) && modelNames(n.Names...)
	case Return:
		return !named && !numbered && !listed && parts == 1
	case Hole:
		return !named && !numbered && !listed && parts == 0
	}
	return false
}

// modelForm: is a Node, with all below it, one that may stand at a place?
func modelForm(n Node, place int) bool {
	fits := false
	for _, kind := range allowed(place) {
		fits = fits || kind == n.Kind
	}
	if !fits || !modelNode(n, place) {
		return false
	}
	for i, kid := range n.Kids {
		if !modelForm(kid, placeOf(n, place, i)) {
			return false
		}
	}
	return true
}

// flat: all Nodes, ahead of their Kids, and how deep each is, by a stack.
func flat(m Method) (nodes []Node, depths []int) {
	var stack []Node
	var deep []int
	push := func(list []Node, depth int) {
		for i := len(list) - 1; i >= 0; i-- {
			stack, deep = append(stack, list[i]), append(deep, depth)
		}
	}
	for push(m.Body, 1); len(stack) > 0; {
		top := len(stack) - 1
		n, d := stack[top], deep[top]
		stack, deep = stack[:top], deep[:top]
		nodes, depths = append(nodes, n), append(depths, d)
		push(n.Kids, d+1)
	}
	return nodes, depths
}

// modelCheck: all that is said of a method.
func modelCheck(m Method) api.Errno {
	whole := Node{Kind: Block, Names: append(append([]string{}, m.Params...), m.Temps...), Num: int64(len(m.Params)), Kids: m.Body}
	if modelArity(m.Name) != len(m.Params) || m.Prim < 0 || m.Prim > 999 || !modelForm(whole, value) {
		return api.ErrForm
	}
	nodes, depths := flat(m)
	least := api.OK
	tell := func(is bool, e api.Errno) {
		if is && (least == api.OK || e < least) {
			least = e
		}
	}
	for i, n := range nodes {
		tell(depths[i] > 40, api.ErrDeep)
		tell(n.Kind == Int && (n.Num >= 1<<62 || n.Num <= -1<<62), api.ErrOver)
		tell(n.Kind == Text && len(n.Name) > 4096 || n.Kind == Symbol && len(n.Name) > 64, api.ErrSize)
	}
	return least
}

// pick: one of them by chance.
func pick[T any](r *rand.Rand, list ...T) T { return list[r.Intn(len(list))] }

func someName(r *rand.Rand) string {
	return pick(r, "a", "b", "x1", "foo", "self", "super", "nil", "true", "false")
}

func someNames(r *rand.Rand) []string {
	var out []string
	for range r.Intn(4) {
		out = append(out, someName(r))
	}
	return out
}

// longest: a message's name that ends so, of just as many bytes as one may have.
func longest(end string) string { return strings.Repeat("n", 64-len(end)) + end }

func someMessage(r *rand.Rand) string {
	return pick(r, "foo", "x", "+", "-", "|", "->", "<=", "at:", "at:put:", "a:b:c:", "value", longest(""), longest(":"), longest(":k:"))
}

func someText(r *rand.Rand) string {
	return pick(r, "", "a", "it's", "at:put:", "+", "|", "||", "true", "nil", "false", "a b", "#x", "\xff\"", "9", "a:b", "self", "-")
}

// someSend: to such a receiver.
func someSend(r *rand.Rand, deep int, to Node) Node {
	n := Node{Kind: Send, Name: someMessage(r), Kids: []Node{to}}
	for range modelArity(n.Name) {
		n.Kids = append(n.Kids, someNode(r, deep, value))
	}
	return n
}

// someNode: that may stand at a place, with so many below it, within one another, at most, or about.
func someNode(r *rand.Rand, deep, place int) Node {
	kind := pick(r, allowed(place)...)
	if deep <= 0 && place != firstMessage && place != furtherMessage {
		kind = pick(r, allowed(element)...)
	}
	n := Node{Kind: kind, At: r.Intn(9)}
	switch kind {
	case Int:
		n.Num = pick(r, 0, 1, -1, 127, -129, api.MaxInt, api.MinInt+1, int64(r.Intn(1000)))
	case Text, Symbol:
		n.Name = someText(r)
	case Var:
		n.Name = someName(r)
		if place == element {
			n.Name = pick(r, "true", "false", "nil")
		}
	case List:
		for range r.Intn(4) {
			n.Kids = append(n.Kids, someNode(r, deep-1, element))
		}
	case Assign:
		n.Name, n.Kids = someName(r), []Node{someNode(r, deep-1, value)}
	case Return:
		n.Kids = []Node{someNode(r, deep-1, value)}
	case Send:
		n = someSend(r, deep-1, someNode(r, deep-1, value))
	case Cascade:
		n.Kids = []Node{someNode(r, deep-1, firstMessage)}
		for range 1 + r.Intn(3) {
			n.Kids = append(n.Kids, someSend(r, deep-2, Node{Kind: Hole}))
		}
	case Block:
		n.Names = someNames(r)
		n.Num, n.Kids = int64(r.Intn(len(n.Names)+1)), someStatements(r, deep-1)
	}
	if place == firstMessage {
		n = someSend(r, deep-1, someNode(r, deep-1, value))
	}
	return n
}

func someStatements(r *rand.Rand, deep int) []Node {
	var out []Node
	for i, count := 0, r.Intn(4); i < count; i++ {
		place := statement
		if i == count-1 {
			place = lastStatement
		}
		out = append(out, someNode(r, deep, place))
	}
	return out
}

// someMethod: that is one.
func someMethod(r *rand.Rand) Method {
	m := Method{Name: someMessage(r), Temps: someNames(r), Prim: pick(r, 0, 0, 0, 1, 999), At: r.Intn(9)}
	for range modelArity(m.Name) {
		m.Params = append(m.Params, someName(r))
	}
	m.Body = someStatements(r, r.Intn(6))
	return m
}

// copied: with lists of its own, which have spare room.
func copied(list []Node) []Node {
	if list == nil {
		return nil
	}
	out := make([]Node, 0, len(list)+2)
	for _, n := range list {
		n.Kids, n.Names = copied(n.Kids), roomy(n.Names)
		out = append(out, n)
	}
	spare := out[len(out):cap(out)]
	for i := range spare {
		spare[i] = Node{Kind: -7, Name: "spare"}
	}
	return out
}

// roomy: the same names, with spare room.
func roomy(list []string) []string {
	if list == nil {
		return nil
	}
	return append(append(make([]string, 0, len(list)+2), list...), "spare", "spare")[:len(list)]
}

// copyOf: a method that shares nothing with this one.
func copyOf(m Method) Method {
	m.Params, m.Temps, m.Body = roomy(m.Params), roomy(m.Temps), copied(m.Body)
	return m
}

// whole: a list of Nodes, with its spare room and that of all below.
func whole(list []Node) []Node {
	out := append([]Node{}, list[:cap(list)]...)
	for i, n := range out {
		out[i].Kids, out[i].Names = whole(n.Kids), append([]string{}, n.Names[:cap(n.Names)]...)
	}
	return out
}

// places: the lists of Nodes of a method, its own first, each of which may be changed.
func places(m *Method) []*[]Node {
	out := []*[]Node{&m.Body}
	for i := 0; i < len(out); i++ {
		for j := range *out[i] {
			out = append(out, &(*out[i])[j].Kids)
		}
	}
	return out
}

// spoil: changes a Node by chance.
func spoil(r *rand.Rand, n *Node) {
	switch r.Intn(9) {
	case 0:
		n.Kind = r.Intn(14) - 1
	case 1:
		if n.Kind == Send && r.Intn(2) == 0 {
			n.Name = pick(r, "n", "n:", "k:") + n.Name
			return
		}
		n.Name = pick(r, "", "a", "1a", "at:", "at:put:", "+", "nil", "true", "a b", strings.Repeat("n", 64), strings.Repeat("n", 65), strings.Repeat("x", 4096), strings.Repeat("x", 4097))
	case 2:
		n.Num = pick[int64](r, 0, 1, -1, 2, 3, 1<<62, -1<<62, 1<<62-1, 1-1<<62, 1<<63-1, -1<<63)
	case 3:
		n.Kids = append(n.Kids[:len(n.Kids):len(n.Kids)], someNode(r, 1, lastStatement))
	case 4:
		n.Kids = n.Kids[:len(n.Kids)-min(1, len(n.Kids))]
	case 5:
		n.Names = []string{pick(r, "", "a", "1", "a:", "+", strings.Repeat("n", 65))}
	case 6:
		n.Names = nil
	case 7:
		*n = pick(r, Node{Kind: Hole}, Node{Kind: Return, Kids: []Node{{Kind: Int}}}, Node{Kind: Send, Name: "foo", Kids: []Node{{Kind: Hole}}}, Node{Kind: Var, Name: "nil"}, Node{Kind: Var, Name: "x"}, Node{})
	case 8:
		for range pick(r, 1, 2, 30, 38, 39, 40) {
			*n = Node{Kind: Assign, Name: "a", Kids: []Node{*n}}
		}
	}
}
