package parse

import (
	"strings"

	"foundling/api"
	"foundling/lex"
	"foundling/tree"
)

// maxPrim: the greatest number of a primitive.
const maxPrim = 999

// method: the whole text.
func (p *parser) method() tree.Method {
	m := tree.Method{At: p.token.At}
	m.Name, m.Params = p.pattern()
	m.Prim = p.primitive()
	m.Temps = p.variables()
	body := p.statements()
	if !p.is(lex.End) {
		p.refuse()
	}
	m.Body = append(p.aside, body...)
	if e := tree.Check(m); e != api.OK {
		p.giveUp(e, m.At)
	}
	return m
}

// pattern: a method's name and its parameters.
func (p *parser) pattern() (name string, params []string) {
	param := func() { params = append(params, p.take(lex.Name).Word) }
	switch p.token.Kind {
	case lex.Name:
		name = p.take(lex.Name).Word
	case lex.Op:
		name = p.take(lex.Op).Word
		param()
	default:
		name = p.keywords(param)
	}
	return name, params
}

// keywords: one at least, each with what is behind it, as one name.
func (p *parser) keywords(argument func()) string {
	var words []string
	for {
		words = append(words, p.take(lex.Keyword).Word)
		argument()
		if !p.is(lex.Keyword) {
			return strings.Join(words, "")
		}
	}
}

// primitive: its number; 0, if none is told.
func (p *parser) primitive() int {
	if !p.isOp("<") {
		return 0
	}
	p.advance()
	if p.token.Word != "primitive:" {
		p.refuse()
	}
	p.take(lex.Keyword)
	if p.token.Num < 1 || p.token.Num > maxPrim {
		p.refuse()
	}
	number := p.take(lex.Int).Num
	p.takeOp(">")
	return int(number)
}

// variables: the names between two bars, if they stand here.
func (p *parser) variables() []string {
	if !p.isOp("|") {
		return nil
	}
	p.advance()
	var names []string
	for p.is(lex.Name) {
		names = append(names, p.take(lex.Name).Word)
	}
	p.takeOp("|")
	return names
}

// statements: as many as stand here, none behind one that returns.
func (p *parser) statements() []tree.Node {
	var list []tree.Node
	for p.is(lex.Return) || p.begins() {
		n := p.statement()
		list = append(list, n)
		if !p.is(lex.Dot) {
			break
		}
		p.advance()
		if n.Kind == tree.Return {
			break
		}
	}
	return list
}

func (p *parser) statement() tree.Node {
	if !p.is(lex.Return) {
		return p.expression()
	}
	at := p.take(lex.Return).At
	return tree.Node{Kind: tree.Return, Kids: []tree.Node{p.expression()}, At: at}
}
