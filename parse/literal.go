package parse

import (
	"foundling/lex"
	"foundling/tree"
)

func (p *parser) literal() tree.Node {
	switch p.token.Kind {
	case lex.Int:
		return p.leaf(tree.Int)
	case lex.Text:
		return p.leaf(tree.Text)
	case lex.Symbol:
		return p.leaf(tree.Symbol)
	case lex.ArrayOpen:
		return p.array()
	}
	if !p.isNegative() {
		p.refuse()
	}
	return p.negative()
}

// negative: a number whose - the token is.
func (p *parser) negative() tree.Node {
	at := p.take(lex.Op).At
	return tree.Node{Kind: tree.Int, Num: -p.take(lex.Int).Num, At: at}
}

// array: what stands between the brackets that begin with the token.
func (p *parser) array() tree.Node {
	return p.deeper(func() tree.Node {
		n := tree.Node{Kind: tree.List, At: p.token.At}
		p.advance()
		for !p.is(lex.Close) {
			n.Kids = append(n.Kids, p.element())
		}
		p.advance()
		return n
	})
}

// element: of a literal array.
func (p *parser) element() tree.Node {
	switch p.token.Kind {
	case lex.Name:
		return p.leaf(kindOfName(p.token.Word))
	case lex.Keyword:
		return p.joined()
	case lex.Op:
		if !p.isNegative() {
			return p.leaf(tree.Symbol)
		}
	case lex.Open:
		return p.array()
	}
	return p.literal()
}

// kindOfName: what a name is in a literal array.
func kindOfName(name string) int {
	switch name {
	case "true", "false", "nil":
		return tree.Var
	}
	return tree.Symbol
}

// joined: Keywords without anything between, as one symbol.
func (p *parser) joined() tree.Node {
	from := p.token.At
	to := from
	for p.is(lex.Keyword) && p.token.At == to {
		to = p.behind
		p.advance()
	}
	return tree.Node{Kind: tree.Symbol, Name: p.text[from:to], At: from}
}
