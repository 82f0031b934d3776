package tree

import (
	"foundling/api"
	"foundling/lex"
)

// maxPrim: the greatest number of a primitive.
const maxPrim = 999

// What a node may have.
const (
	hasName = 1 << iota
	hasNum
	hasKids
	hasNames
)

// used: what a kind uses.
func used(kind int) int {
	switch kind {
	case Int:
		return hasNum
	case Text, Symbol, Var:
		return hasName
	case List, Cascade, Return:
		return hasKids
	case Assign, Send:
		return hasName | hasKids
	case Block:
		return hasNum | hasKids | hasNames
	}
	return 0
}

// isBare: of this kind, without anything that the kind doesn't use?
func isBare(n Node, kind int) bool {
	has := 0
	if n.Name != "" {
		has |= hasName
	}
	if n.Num != 0 {
		has |= hasNum
	}
	if len(n.Kids) > 0 {
		has |= hasKids
	}
	if len(n.Names) > 0 {
		has |= hasNames
	}
	return n.Kind == kind && has&^used(kind) == 0
}

// all: are all of a list such?
func all[T any](list []T, is func(T) bool) bool {
	for _, x := range list {
		if !is(x) {
			return false
		}
	}
	return true
}

// isMethod: but for what is too long, too great or too deep?
func isMethod(m Method) bool {
	return lex.Arity(m.Name) == len(m.Params) && all(m.Params, isName) && all(m.Temps, isName) &&
		m.Prim >= 0 && m.Prim <= maxPrim && areStatements(m.Body)
}

// isName: one that a variable may have?
func isName(s string) bool { return lex.Arity(s) == 0 }

// areStatements: values, of which the last one may be returned?
func areStatements(list []Node) bool {
	if len(list) == 0 {
		return true
	}
	last := list[len(list)-1]
	return all(list[:len(list)-1], isValue) && (isValue(last) || isReturn(last))
}

func isReturn(n Node) bool {
	return isBare(n, Return) && len(n.Kids) == 1 && isValue(n.Kids[0])
}

// isValue: what may stand where a value is asked?
func isValue(n Node) bool {
	switch n.Kind {
	case List:
		return isBare(n, List) && all(n.Kids, isElement)
	case Var:
		return isBare(n, Var) && isName(n.Name)
	case Assign:
		return isBare(n, Assign) && isName(n.Name) && len(n.Kids) == 1 && isValue(n.Kids[0])
	case Send:
		return isSend(n, isValue)
	case Cascade:
		return isCascade(n)
	case Block:
		return isBlock(n)
	}
	return isLiteral(n)
}

func isLiteral(n Node) bool { return isBare(n, Int) || isBare(n, Text) || isBare(n, Symbol) }

// isElement: what may stand in a literal array?
func isElement(n Node) bool {
	switch n.Kind {
	case List:
		return isBare(n, List) && all(n.Kids, isElement)
	case Var:
		return isBare(n, Var) && (n.Name == "true" || n.Name == "false" || n.Name == "nil")
	}
	return isLiteral(n)
}

// isSend: to such a receiver?
func isSend(n Node, isReceiver func(Node) bool) bool {
	arity := lex.Arity(n.Name)
	return isBare(n, Send) && arity >= 0 && len(n.Kids) == arity+1 &&
		isReceiver(n.Kids[0]) && all(n.Kids[1:], isValue)
}

func isCascade(n Node) bool {
	return isBare(n, Cascade) && len(n.Kids) > 1 && isSend(n.Kids[0], isValue) && all(n.Kids[1:], isFurther)
}

// isFurther: a message of a cascade behind the first one?
func isFurther(n Node) bool {
	return isSend(n, func(to Node) bool { return isBare(to, Hole) })
}

func isBlock(n Node) bool {
	return isBare(n, Block) && n.Num >= 0 && n.Num <= int64(len(n.Names)) && all(n.Names, isName) && areStatements(n.Kids)
}

// isShort: no text, or symbol, that is too long?
func isShort(n Node) bool {
	switch n.Kind {
	case Text:
		return len(n.Name) <= api.MaxText
	case Symbol:
		return len(n.Name) <= api.MaxName
	}
	return true
}

// isSmall: no number that is too great? The least one of words could be written only with its - ahead of digits that are above MaxInt.
func isSmall(n Node) bool {
	return n.Kind != Int || n.Num > api.MinInt && n.Num <= api.MaxInt
}
