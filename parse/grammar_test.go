package parse

import (
	"strings"

	"foundling/api"
	"foundling/lex"
)

// grammar: that of the chapter, a way a line, of parts and of words in quotes; "minus" is a - with an Int right behind it.
const grammar = `
method = pattern pragma vars statements end
pattern = name
pattern = op name
pattern = keyparams
keyparams = keyword name
keyparams = keyword name keyparams
pragma =
pragma = < primitive: oneTo999 >
vars =
vars = bar names bar
names =
names = name names
statements =
statements = expression
statements = expression . statements
statements = ^ expression
statements = ^ expression .
expression = name := expression
expression = keyworded
expression = cascade
cascade = sent ; message
cascade = cascade ; message
sent = toName
sent = toOp
sent = toKeywords
toName = unary name
toOp = binary op unary
toKeywords = binary keyargs
keyargs = keyword binary
keyargs = keyword binary keyargs
keyworded = binary
keyworded = toKeywords
binary = unary
binary = toOp
unary = primary
unary = toName
primary = name
primary = literal
primary = ( expression )
primary = block
message = name
message = op unary
message = keyargs
block = [ vars statements ]
block = [ params ]
block = [ params bar vars statements ]
params = : name
params = : name params
literal = int
literal = minus int
literal = text
literal = symbol
literal = #( elements )
elements =
elements = element elements
element = int
element = minus int
element = text
element = symbol
element = name
element = keyword
element = op
element = ( elements )
element = #( elements )
`

// rule: what a part may be made of.
type rule struct {
	part string
	of   []string
}

func rules() []rule {
	var out []rule
	for line := range strings.SplitSeq(strings.TrimSpace(grammar), "\n") {
		part, of, _ := strings.Cut(line, " =")
		out = append(out, rule{part, strings.Fields(of)})
	}
	return out
}

// item: a rule, how much of it was seen, and where it began.
type item struct{ rule, dot, from int }

// recogniser: after Earley. In sets[i] stand the rules that may be under way ahead of token i.
type recogniser struct {
	rules []rule
	sets  []map[item]bool
}

// fill: all that follows from what stands in the last set.
func (g *recogniser) fill() {
	at := len(g.sets) - 1
	set := g.sets[at]
	for before := -1; before != len(set); {
		before = len(set)
		for x := range set {
			r := g.rules[x.rule]
			if x.dot == len(r.of) {
				for y := range g.sets[x.from] {
					if of := g.rules[y.rule].of; y.dot < len(of) && of[y.dot] == r.part {
						set[item{y.rule, y.dot + 1, y.from}] = true
					}
				}
				continue
			}
			for i, other := range g.rules {
				if other.part == r.of[x.dot] {
					set[item{i, 0, at}] = true
				}
			}
		}
	}
}

// step: over a token that is each of these words; false: it may not stand there.
func (g *recogniser) step(words []string) bool {
	next := map[item]bool{}
	for x := range g.sets[len(g.sets)-1] {
		of := g.rules[x.rule].of
		for _, word := range words {
			if x.dot < len(of) && of[x.dot] == word {
				next[item{x.rule, x.dot + 1, x.from}] = true
			}
		}
	}
	g.sets = append(g.sets, next)
	g.fill()
	return len(next) > 0
}

// wordsOf: what a token is in the grammar; with a number right behind it?
func wordsOf(t lex.Token, numbered bool) []string {
	marks := map[int]string{lex.End: "end", lex.Assign: ":=", lex.Return: "^", lex.Dot: ".", lex.Semi: ";", lex.Open: "(", lex.Close: ")", lex.BlockOpen: "[", lex.BlockClose: "]", lex.ArrayOpen: "#(", lex.Colon: ":", lex.Name: "name", lex.Text: "text", lex.Symbol: "symbol"}
	switch t.Kind {
	case lex.Keyword:
		if t.Word == "primitive:" {
			return []string{"keyword", "primitive:"}
		}
		return []string{"keyword"}
	case lex.Int:
		if t.Num >= 1 && t.Num <= 999 {
			return []string{"int", "oneTo999"}
		}
		return []string{"int"}
	case lex.Op:
		switch {
		case t.Word == "|":
			return []string{"op", "bar"}
		case t.Word == "-" && numbered:
			return []string{"op", "minus"}
		case t.Word == "<" || t.Word == ">":
			return []string{"op", t.Word}
		}
		return []string{"op"}
	}
	return []string{marks[t.Kind]}
}

// modelWrong: what is wrong first, but for what is too deep and for what tree.Check tells.
func modelWrong(s string) (int, api.Errno) {
	g := &recogniser{rules: rules(), sets: []map[item]bool{{{}: true}}}
	g.fill()
	for at := 0; ; {
		t, behind, e := lex.Next(s, at)
		if e != api.OK {
			return behind, e
		}
		next, _, _ := lex.Next(s, behind)
		numbered := next.Kind == lex.Int && next.At == behind
		if !g.step(wordsOf(t, numbered)) {
			return t.At, api.ErrForm
		}
		if t.Kind == lex.End {
			return 0, api.OK
		}
		at = behind
	}
}
