package intern

import (
	"foundling/api"
	"foundling/head"
	"foundling/scope"
	"foundling/small"
	"foundling/sound"
)

// reader: what is known of words that are read. All of them are looked at ahead, an Array once however many lead to it: what isn't read isn't written down either.
type reader struct {
	memory
	heights map[api.Word]int // of Arrays that were gone through
	isOther bool             // was something met that is no literal?
}

// isArray: is it one that a literal makes?
func (r *reader) isArray(w api.Word) bool { return r.isOf(w, head.Slots, sound.ArrayClass) }

// height: how many Arrays stand within one another at a word; more than MaxDeep, if there are more than room. As that is told of what leads back to itself, too, each of them gets a height.
func (r *reader) height(w api.Word, room int) int {
	if !r.isArray(w) {
		_, isLeaf := r.leaf(w)
		r.isOther = r.isOther || !isLeaf
		return 0
	}
	if n, isKnown := r.heights[w]; isKnown {
		return n
	}
	if room == 0 {
		return api.MaxDeep + 1
	}
	most := 0
	for i := range r.count(w) {
		most = max(most, r.height(r.word(w, i), room-1))
	}
	r.heights[w] = most + 1
	return most + 1
}

// item: of a word that was looked at.
func (r *reader) item(w api.Word) scope.Item {
	if !r.isArray(w) {
		x, _ := r.leaf(w)
		return x
	}
	list := scope.Item{Kind: scope.List}
	for i := range r.count(w) {
		list.Kids = append(list.Kids, r.item(r.word(w, i)))
	}
	return list
}

// leaf: a literal that has no others within.
func (r *reader) leaf(w api.Word) (scope.Item, bool) {
	if n, e := small.Value(w); e == api.OK {
		return scope.Item{Kind: scope.Int, Num: n}, true
	}
	switch w {
	case r.special(sound.Nil):
		return scope.Item{Kind: scope.Nil}, true
	case r.special(sound.True):
		return scope.Item{Kind: scope.True}, true
	case r.special(sound.False):
		return scope.Item{Kind: scope.False}, true
	}
	if kind, isText := r.textKind(w); isText {
		return scope.Item{Kind: kind, Name: r.text(w)}, true
	}
	name := r.text(r.word(w, sound.Name))
	if class, isThere := Global(r.Heap, r.root, name); isThere && class == w {
		return scope.Item{Kind: scope.Global, Name: name}, true
	}
	return scope.Item{}, false
}

// textKind: is it a String, or a Symbol, not longer than a literal may be?
func (r *reader) textKind(w api.Word) (int, bool) {
	d, _ := r.Head(w)
	switch {
	case d.Size > api.MaxText:
		return 0, false
	case r.isOf(w, head.Raw, sound.StringClass):
		return scope.Text, true
	case r.isOf(w, head.Raw, sound.SymbolClass):
		return scope.Symbol, true
	}
	return 0, false
}
