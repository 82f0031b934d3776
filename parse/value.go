package parse

import (
	"foundling/api"
	"foundling/lex"
	"foundling/tree"
)

// expression: one deeper. A token that begins none isn't too deep, it may not stand there.
func (p *parser) expression() tree.Node {
	if !p.begins() {
		p.refuse()
	}
	return p.deeper(func() tree.Node {
		if p.isAssigned() {
			return p.assign()
		}
		return p.cascade()
	})
}

func (p *parser) assign() tree.Node {
	name := p.take(lex.Name)
	p.take(lex.Assign)
	return tree.Node{Kind: tree.Assign, Name: name.Word, Kids: []tree.Node{p.expression()}, At: name.At}
}

// cascade: a value; behind one that a message has just made, further messages.
func (p *parser) cascade() tree.Node {
	n, isSent := p.sent(lex.Name, lex.Op, lex.Keyword)
	if !isSent || !p.is(lex.Semi) {
		return n
	}
	n = tree.Node{Kind: tree.Cascade, Kids: []tree.Node{n}, At: n.At}
	for p.is(lex.Semi) {
		hole := tree.Node{Kind: tree.Hole, At: p.token.At}
		p.advance()
		n.Kids = append(n.Kids, p.message(hole))
	}
	return n
}

// sent: a primary, to which the messages behind it are sent, kind by kind; was one?
func (p *parser) sent(kinds ...int) (n tree.Node, isSent bool) {
	n = p.primary()
	steps := 0
	for _, kind := range kinds {
		for p.is(kind) {
			if steps > 0 && steps%(api.MaxDeep+1) == 0 {
				n = p.layAside(n)
			}
			n = p.message(n)
			steps++
		}
	}
	return n, steps > 0
}

// layAside: what is too deep by itself, so that nothing is nested as far as a text is long: all is checked at the end. A number stands for it.
func (p *parser) layAside(n tree.Node) tree.Node {
	p.aside = append(p.aside, n)
	return tree.Node{Kind: tree.Int}
}

// message: one, sent to this.
func (p *parser) message(to tree.Node) tree.Node {
	n := tree.Node{Kind: tree.Send, Kids: []tree.Node{to}, At: p.token.At}
	argument := func(kinds ...int) {
		kid, _ := p.sent(kinds...)
		n.Kids = append(n.Kids, kid)
	}
	switch p.token.Kind {
	case lex.Name:
		n.Name = p.take(lex.Name).Word
	case lex.Op:
		n.Name = p.take(lex.Op).Word
		argument(lex.Name)
	default:
		n.Name = p.keywords(func() { argument(lex.Name, lex.Op) })
	}
	return n
}

func (p *parser) primary() tree.Node {
	switch p.token.Kind {
	case lex.Name:
		return p.leaf(tree.Var)
	case lex.Open:
		p.advance()
		n := p.expression()
		p.take(lex.Close)
		return n
	case lex.BlockOpen:
		return p.block()
	}
	return p.literal()
}

// leaf: the token itself, as a node of this kind.
func (p *parser) leaf(kind int) tree.Node {
	t := p.token
	p.advance()
	return tree.Node{Kind: kind, Name: t.Word, Num: t.Num, At: t.At}
}

func (p *parser) block() tree.Node {
	n := tree.Node{Kind: tree.Block, At: p.take(lex.BlockOpen).At}
	for p.is(lex.Colon) {
		p.advance()
		n.Names = append(n.Names, p.take(lex.Name).Word)
		n.Num++
	}
	if n.Num > 0 && !p.is(lex.BlockClose) {
		p.takeOp("|")
	}
	n.Names = append(n.Names, p.variables()...)
	n.Kids = p.statements()
	p.take(lex.BlockClose)
	return n
}
