package gen

import (
	"strconv"
	"strings"

	"foundling/api"
	"foundling/scope"
)

// literals: those that were used, and by what each is spelt its number.
type literals struct {
	list    []scope.Item
	numbers map[string]int
}

// number: of a literal, which is put behind the others if it wasn't used yet.
func (l *literals) number(i scope.Item) int {
	var text strings.Builder
	spell(&text, i)
	n, isThere := l.numbers[text.String()]
	if isThere {
		return n
	}
	n = len(l.list)
	if n == api.MaxLits {
		giveUp(api.ErrSize)
	}
	l.numbers[text.String()] = n
	l.list = append(l.list, copied(i))
	return n
}

// spell: a literal, so that others are spelt otherwise: ahead of a name, and of kids, stands how much of it there is.
func spell(to *strings.Builder, i scope.Item) {
	for _, n := range [...]int{i.Kind, int(i.Num), len(i.Name), len(i.Kids)} {
		to.WriteString(strconv.Itoa(n))
		to.WriteByte(' ')
	}
	to.WriteString(i.Name)
	for _, kid := range i.Kids {
		spell(to, kid)
	}
}

// copied: a literal, in memory of its own.
func copied(i scope.Item) scope.Item {
	out := scope.Item{Kind: i.Kind, Name: i.Name, Num: i.Num}
	for _, kid := range i.Kids {
		if !isElement(kid) {
			giveUp(api.ErrForm)
		}
		out.Kids = append(out.Kids, copied(kid))
	}
	return out
}

// isElement: what may stand in a literal array?
func isElement(i scope.Item) bool {
	switch i.Kind {
	case scope.Int, scope.Text, scope.Symbol, scope.List, scope.Nil, scope.True, scope.False:
		return true
	}
	return false
}
