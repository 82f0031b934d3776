package parse

import (
	"math/rand"
	"strings"

	"foundling/api"
	"foundling/lex"
	"foundling/tree"
)

// Nodes, shortly.
func num(n int64) tree.Node               { return tree.Node{Kind: tree.Int, Num: n} }
func text(s string) tree.Node             { return tree.Node{Kind: tree.Text, Name: s} }
func symbol(s string) tree.Node           { return tree.Node{Kind: tree.Symbol, Name: s} }
func list(kids ...tree.Node) tree.Node    { return tree.Node{Kind: tree.List, Kids: kids} }
func variable(s string) tree.Node         { return tree.Node{Kind: tree.Var, Name: s} }
func answer(kid tree.Node) tree.Node      { return tree.Node{Kind: tree.Return, Kids: []tree.Node{kid}} }
func cascade(kids ...tree.Node) tree.Node { return tree.Node{Kind: tree.Cascade, Kids: kids} }
func body(kids ...tree.Node) tree.Method  { return tree.Method{Name: "foo", Body: kids} }
func assign(s string, kid tree.Node) tree.Node {
	return tree.Node{Kind: tree.Assign, Name: s, Kids: []tree.Node{kid}}
}
func send(s string, kids ...tree.Node) tree.Node {
	return tree.Node{Kind: tree.Send, Name: s, Kids: kids}
}
func further(s string, kids ...tree.Node) tree.Node {
	return send(s, append([]tree.Node{{Kind: tree.Hole}}, kids...)...)
}
func block(names string, params int64, kids ...tree.Node) tree.Node {
	n := tree.Node{Kind: tree.Block, Num: params, Kids: kids}
	n.Names = append(n.Names, strings.Fields(names)...)
	return n
}

// at: a Node with its place.
func at(place int, n tree.Node) tree.Node {
	n.At = place
	return n
}

// pick: one of them by chance.
func pick[T any](r *rand.Rand, list ...T) T { return list[r.Intn(len(list))] }

func someName(r *rand.Rand) string {
	return pick(r, "a", "b", "x1", "foo", "self", "super", "nil", "true", "false", "primitive", "class")
}

func someNames(r *rand.Rand) []string {
	var out []string
	for range r.Intn(4) {
		out = append(out, someName(r))
	}
	return out
}

func someMessage(r *rand.Rand) string {
	long := strings.Repeat("n", 60)
	return pick(r, "foo", "x", "+", "-", "|", "->", "<=", "<", ">", "at:", "at:put:", "primitive:", "a:b:c:", "value", long+"nnnn", long+"nnn:", long+":k:", "true", "nil")
}

func someText(r *rand.Rand) string {
	return pick(r, "", "a", "it's", "at:put:", "at:", "+", "|", "||", "<", "true", "nil", "false", "a b", "#x", "\xff\"", "9", "a:b", "self", "-", "(", strings.Repeat("'", 64))
}

func someNum(r *rand.Rand) int64 {
	return pick(r, 0, 1, -1, 65, 127, -129, 255, api.MaxInt, api.MinInt+1, int64(r.Intn(1000)))
}

// someSend: to such a receiver.
func someSend(r *rand.Rand, deep int, to tree.Node) tree.Node {
	n := send(someMessage(r), to)
	for range lex.Arity(n.Name) {
		n.Kids = append(n.Kids, someValue(r, deep))
	}
	return n
}

func someLeaf(r *rand.Rand) tree.Node {
	return pick(r, num(someNum(r)), text(someText(r)), symbol(someText(r)), variable(someName(r)))
}

// someValue: with about so many Nodes within one another.
func someValue(r *rand.Rand, deep int) tree.Node {
	if deep <= 0 {
		return someLeaf(r)
	}
	switch r.Intn(8) {
	case 0:
		return someList(r, deep-1)
	case 1:
		return assign(someName(r), someValue(r, deep-1))
	case 2, 3, 4:
		return someSend(r, deep-1, someValue(r, deep-1))
	case 5:
		n := cascade(someSend(r, deep-1, someValue(r, deep-1)))
		for range 1 + r.Intn(3) {
			n.Kids = append(n.Kids, someSend(r, deep-1, tree.Node{Kind: tree.Hole}))
		}
		return n
	case 6:
		n := tree.Node{Kind: tree.Block, Names: someNames(r), Kids: someStatements(r, deep-1)}
		n.Num = int64(r.Intn(len(n.Names) + 1))
		return n
	}
	return someLeaf(r)
}

func someList(r *rand.Rand, deep int) tree.Node {
	n := list()
	for range r.Intn(5) {
		switch kid := someLeaf(r); {
		case deep > 0 && r.Intn(3) == 0:
			n.Kids = append(n.Kids, someList(r, deep-1))
		case kid.Kind == tree.Var:
			n.Kids = append(n.Kids, variable(pick(r, "true", "false", "nil")))
		default:
			n.Kids = append(n.Kids, kid)
		}
	}
	return n
}

func someStatements(r *rand.Rand, deep int) []tree.Node {
	var out []tree.Node
	for range r.Intn(4) {
		out = append(out, someValue(r, deep))
	}
	if r.Intn(2) == 0 {
		out = append(out, answer(someValue(r, deep)))
	}
	return out
}

// someMethod: that is one.
func someMethod(r *rand.Rand) tree.Method {
	m := tree.Method{Name: someMessage(r), Temps: someNames(r), Prim: pick(r, 0, 0, 0, 1, 999)}
	for range lex.Arity(m.Name) {
		m.Params = append(m.Params, someName(r))
	}
	m.Body = someStatements(r, r.Intn(6))
	return m
}

// The gaps that may stand ahead of a piece: any, none, one at least.
const (
	anyGap = iota
	noGap
	someGap
)

// piece: a token as it is to be written, and whose place it is.
type piece struct {
	s   string
	gap int
	at  *int
}

// writer: writes a tree as texts of it may be, not always alike, and puts the places into it.
type writer struct {
	r      *rand.Rand
	pieces []piece
}

func (w *writer) chance() bool { return w.r.Intn(4) == 0 }

func (w *writer) put(s string) { w.pieces = append(w.pieces, piece{s: s}) }

func (w *writer) putAt(s string, at *int) { w.pieces = append(w.pieces, piece{s: s, at: at}) }

func (w *writer) method(m *tree.Method) {
	w.message(m.Name, &m.At, func(i int) { w.put(m.Params[i]) })
	if m.Prim != 0 {
		w.put("<")
		w.put("primitive:")
		w.number(int64(m.Prim))
		w.put(">")
	}
	w.variables(m.Temps)
	w.statements(m.Body)
}

// message: a method's pattern, or what is sent.
func (w *writer) message(name string, at *int, argument func(i int)) {
	if lex.Arity(name) == 0 {
		w.putAt(name, at)
		return
	}
	for i, part := range strings.SplitAfter(name, ":") {
		switch {
		case part == "":
		case i == 0:
			w.putAt(part, at)
			argument(i)
		default:
			w.put(part)
			argument(i)
		}
	}
}

func (w *writer) variables(names []string) {
	if len(names) == 0 && !w.chance() {
		return
	}
	w.put("|")
	for _, name := range names {
		w.put(name)
	}
	w.put("|")
}

func (w *writer) statements(list []tree.Node) {
	for i := range list {
		n := &list[i]
		if n.Kind == tree.Return {
			w.putAt("^", &n.At)
			n = &n.Kids[0]
		}
		w.expression(n)
		if i < len(list)-1 || w.chance() {
			w.put(".")
		}
	}
}

// expression: any value; in brackets at times.
func (w *writer) expression(n *tree.Node) {
	switch {
	case w.r.Intn(12) == 0:
		w.put("(")
		w.expression(n)
		w.put(")")
	case n.Kind == tree.Assign:
		w.putAt(n.Name, &n.At)
		w.put(":=")
		w.expression(&n.Kids[0])
	case n.Kind == tree.Cascade:
		w.send(&n.Kids[0])
		for i := 1; i < len(n.Kids); i++ {
			w.putAt(";", &n.Kids[i].Kids[0].At)
			w.sent(&n.Kids[i])
		}
	case n.Kind == tree.Send:
		w.send(n)
	default:
		w.primary(n)
	}
}

// loose: how loosely a value holds together: what stands as an operand where it may be so loose needs no brackets.
func loose(n *tree.Node) int {
	switch n.Kind {
	case tree.Assign, tree.Cascade:
		return 3
	case tree.Send:
		return looseSend(n)
	}
	return 0
}

func looseSend(n *tree.Node) int {
	switch {
	case strings.HasSuffix(n.Name, ":"):
		return 3
	case lex.Arity(n.Name) == 1:
		return 2
	}
	return 1
}

func (w *writer) operand(n *tree.Node, most int) {
	switch {
	case loose(n) > most || w.r.Intn(12) == 0:
		w.put("(")
		w.expression(n)
		w.put(")")
	case n.Kind == tree.Send:
		w.send(n)
	default:
		w.primary(n)
	}
}

func (w *writer) send(n *tree.Node) {
	most := 2
	if looseSend(n) == 1 {
		most = 1
	}
	w.operand(&n.Kids[0], most)
	w.sent(n)
}

func (w *writer) sent(n *tree.Node) {
	w.message(n.Name, &n.At, func(i int) { w.operand(&n.Kids[i+1], looseSend(n)-1) })
}

func (w *writer) primary(n *tree.Node) {
	w.pieces = append(w.pieces, piece{at: &n.At})
	switch n.Kind {
	case tree.Int:
		w.number(n.Num)
	case tree.Text:
		w.put(quoted(n.Name))
	case tree.Symbol:
		w.symbol(n.Name)
	case tree.Var:
		w.put(n.Name)
	case tree.List:
		w.put("#(")
		w.elements(n)
	case tree.Block:
		w.block(n)
	}
}

func quoted(s string) string { return "'" + strings.ReplaceAll(s, "'", "''") + "'" }

// number: by digits, or as a byte.
func (w *writer) number(n int64) {
	gap := anyGap
	if n < 0 {
		w.put("-")
		n, gap = -n, noGap
	}
	s, _ := lex.Spell(lex.Token{Kind: lex.Int, Num: n})
	switch {
	case n < 256 && w.chance():
		s = "$" + string([]byte{byte(n)})
	case w.chance():
		s = "00" + s
	}
	w.pieces = append(w.pieces, piece{s: s, gap: gap})
}

func (w *writer) symbol(s string) {
	if lex.Arity(s) >= 0 && !w.chance() {
		w.put("#" + s)
		return
	}
	w.put("#" + quoted(s))
}

// elements: those of a list, behind its bracket.
func (w *writer) elements(n *tree.Node) {
	for i := range n.Kids {
		kid := &n.Kids[i]
		switch {
		case kid.Kind == tree.List:
			w.putAt(pick(w.r, "(", "#("), &kid.At)
			w.elements(kid)
		case kid.Kind == tree.Symbol && isBare(kid.Name) && !w.chance():
			w.bare(kid)
		default:
			w.primary(kid)
		}
	}
	w.put(")")
}

// isBare: a symbol that may stand without its #?
func isBare(s string) bool {
	return lex.Arity(s) >= 0 && s != "true" && s != "false" && s != "nil"
}

// bare: Keywords without anything between, and what would be of them, or of a number, isn't near.
func (w *writer) bare(n *tree.Node) {
	w.pieces = append(w.pieces, piece{gap: someGap, at: &n.At})
	if !strings.HasSuffix(n.Name, ":") {
		w.put(n.Name)
	} else {
		for i, part := range strings.SplitAfter(n.Name, ":") {
			if i == 0 {
				w.put(part)
			} else if part != "" {
				w.pieces = append(w.pieces, piece{s: part, gap: noGap})
			}
		}
	}
	w.pieces = append(w.pieces, piece{gap: someGap})
}

func (w *writer) block(n *tree.Node) {
	w.put("[")
	for _, name := range n.Names[:n.Num] {
		w.put(":")
		w.put(name)
	}
	if n.Num > 0 && len(n.Names) == int(n.Num) && len(n.Kids) == 0 && w.chance() {
		w.put("]")
		return
	}
	if n.Num > 0 {
		w.put("|")
	}
	w.variables(n.Names[n.Num:])
	w.statements(n.Kids)
	w.put("]")
}

// gap: what may stand between two tokens.
func (w *writer) gap() string {
	s := ""
	for range 1 + w.r.Intn(2) {
		s += pick(w.r, " ", " ", " ", "\n", "\t", "\r", "\"\"", "\"it's ( ! | #\"")
	}
	return s
}

// text: all pieces; without anything between where they may stand so.
func (w *writer) text() string {
	s, count, gap := w.firstGap(), 0, anyGap
	var open []*int
	for _, x := range w.pieces {
		gap = max(gap, x.gap)
		if x.at != nil {
			open = append(open, x.at)
		}
		if x.s == "" {
			continue
		}
		count++
		near := s + x.s
		if gap == someGap || gap == anyGap && (w.chance() || !endsWith(near, x.s, count)) {
			near = s + w.gap() + x.s
		}
		for _, at := range open {
			*at = len(near) - len(x.s)
		}
		s, gap, open = near, anyGap, nil
	}
	return s + w.firstGap()
}

// endsWith: has a text so many tokens, of which this is the last?
func endsWith(s, last string, count int) bool {
	all, _, e := lex.All(s)
	return e == api.OK && len(all) == count+1 && all[count-1].At == len(s)-len(last)
}

func (w *writer) firstGap() string {
	if w.chance() {
		return w.gap()
	}
	return ""
}

// cascadePlaces: that of a Cascade is its first Send's, which is known only when that is written.
func cascadePlaces(nodes []tree.Node) {
	for i := range nodes {
		cascadePlaces(nodes[i].Kids)
		if nodes[i].Kind == tree.Cascade {
			nodes[i].At = nodes[i].Kids[0].At
		}
	}
}

// written: a text of a method, into which its places are put.
func written(r *rand.Rand, m *tree.Method) string {
	w := &writer{r: r}
	w.method(m)
	s := w.text()
	cascadePlaces(m.Body)
	return s
}
