package frame

import (
	"foundling/api"
	"foundling/boot"
)

// slots: how many the context has itself: a block's has none.
func (f *Frame) slots() (int, api.Errno) {
	if !f.isHome() {
		return 0, api.OK
	}
	slots, _, e := f.there().memory.parts(f.method())
	return slots, e
}

// slotted: the frame that has a slot of this number.
func (f *Frame) slotted(i int) (*Frame, api.Errno) {
	if i < 0 {
		return nil, api.ErrNone
	}
	home := f.Home()
	slots, e := home.slots()
	if e != api.OK {
		return nil, e
	}
	if i >= min(slots, home.size()-boot.First) {
		return nil, api.ErrNone
	}
	return home, api.OK
}

// Temp: a slot.
func (f *Frame) Temp(i int) (api.Word, api.Errno) {
	home, e := f.slotted(i)
	if e != api.OK {
		return 0, e
	}
	return home.word(boot.First + i), api.OK
}

// SetTemp: another word in it.
func (f *Frame) SetTemp(i int, w api.Word) api.Errno {
	home, e := f.slotted(i)
	if e != api.OK {
		return e
	}
	return home.put(boot.First+i, w)
}

// Field: a word of its receiver.
func (f *Frame) Field(i int) (api.Word, api.Errno) {
	return f.there().memory.Get(f.word(boot.Receiver), i)
}

// SetField: another one.
func (f *Frame) SetField(i int, w api.Word) api.Errno {
	return f.there().memory.Put(f.word(boot.Receiver), i, w)
}
