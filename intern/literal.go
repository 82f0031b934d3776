package intern

import (
	"foundling/api"
	"foundling/scope"
	"foundling/small"
	"foundling/sound"
)

// literal: its word.
func (m memory) literal(x scope.Item) (api.Word, api.Errno) {
	switch x.Kind {
	case scope.Int:
		return small.Of(x.Num)
	case scope.Text:
		if len(x.Name) > api.MaxText {
			return 0, api.ErrSize
		}
		return m.raw(sound.StringClass, x.Name)
	case scope.Symbol:
		return Intern(m.Heap, m.root, x.Name)
	case scope.List:
		return m.array(x.Kids)
	case scope.Nil:
		return m.given(sound.Nil)
	case scope.True:
		return m.given(sound.True)
	case scope.False:
		return m.given(sound.False)
	case scope.Global:
		if class, isThere := Global(m.Heap, m.root, x.Name); isThere {
			return class, api.OK
		}
		return 0, api.ErrNone
	}
	return 0, api.ErrKind
}

// given: an object that the root has.
func (m memory) given(i int) (api.Word, api.Errno) {
	w := m.special(i)
	if !m.Has(w) {
		return 0, api.ErrKind
	}
	return w, api.OK
}

// array: a new one, behind what its kids make.
func (m memory) array(kids []scope.Item) (api.Word, api.Errno) {
	if len(kids) > api.MaxObject {
		return 0, api.ErrSize
	}
	words := make([]api.Word, 0, len(kids))
	for _, kid := range kids {
		w, e := m.literal(kid)
		if e != api.OK {
			return 0, e
		}
		words = append(words, w)
	}
	return m.list(words...)
}
