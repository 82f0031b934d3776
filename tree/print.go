package tree

import (
	"strings"

	"foundling/lex"
	"foundling/small"
)

// printer: the text of a method, as far as it is written.
type printer struct {
	strings.Builder
}

// each: so many parts, with a text between.
func (p *printer) each(count int, between string, write func(i int)) {
	for i := range count {
		if i > 0 {
			p.WriteString(between)
		}
		write(i)
	}
}

// words: one behind the other.
func (p *printer) words(list []string) {
	p.WriteString(strings.Join(list, " "))
}

// method: the whole.
func (p *printer) method(m Method) {
	p.message(m.Name, func(i int) { p.WriteString(m.Params[i]) })
	if m.Prim != 0 {
		p.WriteString(" <primitive: " + small.Text(int64(m.Prim)) + ">")
	}
	if len(m.Temps) > 0 {
		p.WriteString(" | ")
		p.words(m.Temps)
		p.WriteString(" |")
	}
	if len(m.Body) > 0 {
		p.WriteString(" ")
		p.statements(m.Body)
	}
}

// message: its name, and what is with it.
func (p *printer) message(name string, argument func(i int)) {
	arity := lex.Arity(name)
	if arity == 0 {
		p.WriteString(name)
		return
	}
	// Behind the last : stands one more part, an empty one.
	parts := strings.SplitAfter(name, ":")
	p.each(arity, " ", func(i int) {
		p.WriteString(parts[i] + " ")
		argument(i)
	})
}

// isKeywords: of what is known to be a message's name.
func isKeywords(name string) bool { return strings.HasSuffix(name, ":") }

// isOp: of what is known to be a message's name.
func isOp(name string) bool { return lex.Arity(name) == 1 && !isKeywords(name) }

// statements: with what stands between them.
func (p *printer) statements(list []Node) {
	p.each(len(list), ". ", func(i int) { p.node(list[i]) })
}

// node: any, without brackets.
func (p *printer) node(n Node) {
	switch n.Kind {
	case Int:
		p.WriteString(small.Text(n.Num))
	case Text:
		p.token(lex.Text, n.Name)
	case Symbol:
		p.token(lex.Symbol, n.Name)
	case List:
		p.WriteString("#")
		p.elements(n)
	case Var:
		p.WriteString(n.Name)
	case Assign:
		p.WriteString(n.Name + " := ")
		p.node(n.Kids[0])
	case Send:
		p.send(n)
	case Cascade:
		p.cascade(n)
	case Block:
		p.block(n)
	case Return:
		p.WriteString("^")
		p.node(n.Kids[0])
	}
}

// token: as layer 9 has it. What was checked is one that it can spell.
func (p *printer) token(kind int, word string) {
	s, _ := lex.Spell(lex.Token{Kind: kind, Word: word})
	p.WriteString(s)
}

// elements: a literal array's, in their brackets.
func (p *printer) elements(n Node) {
	p.WriteString("(")
	p.each(len(n.Kids), " ", func(i int) {
		switch kid := n.Kids[i]; {
		case kid.Kind == List:
			p.elements(kid)
		case kid.Kind == Symbol && isPlain(kid.Name):
			p.WriteString(kid.Name)
		default:
			p.node(kid)
		}
	})
	p.WriteString(")")
}

// isPlain: a symbol that stands in a literal array without its #?
func isPlain(name string) bool {
	switch name {
	case "|", "true", "false", "nil":
		return false
	}
	return lex.Arity(name) >= 0
}

// send: the receiver, and the message.
func (p *printer) send(n Node) {
	p.operand(n.Kids[0], lex.Arity(n.Name) == 0)
	p.WriteString(" ")
	p.sent(n)
}

// sent: a Send's message, with its arguments.
func (p *printer) sent(n Node) {
	tight := isOp(n.Name)
	p.message(n.Name, func(i int) { p.operand(n.Kids[i+1], tight) })
}

// operand: a receiver, or an argument; tight where a Send of an Op has to be in brackets.
func (p *printer) operand(n Node, tight bool) {
	if !isBracketed(n, tight) {
		p.node(n)
		return
	}
	p.WriteString("(")
	p.node(n)
	p.WriteString(")")
}

func isBracketed(n Node, tight bool) bool {
	switch n.Kind {
	case Assign, Cascade:
		return true
	case Send:
		return isKeywords(n.Name) || tight && isOp(n.Name)
	}
	return false
}

// cascade: the first message whole, of the others what is sent.
func (p *printer) cascade(n Node) {
	p.each(len(n.Kids), "; ", func(i int) {
		if i == 0 {
			p.send(n.Kids[i])
			return
		}
		p.sent(n.Kids[i])
	})
}

// block: its parameters, its variables, its statements.
func (p *printer) block(n Node) {
	params, temps := n.Names[:n.Num], n.Names[n.Num:]
	p.WriteString("[")
	for _, name := range params {
		p.WriteString(":" + name + " ")
	}
	if len(params) > 0 {
		p.WriteString("| ")
	}
	if len(temps) > 0 {
		p.WriteString("| ")
		p.words(temps)
		p.WriteString(" | ")
	}
	p.statements(n.Kids)
	p.WriteString("]")
}
