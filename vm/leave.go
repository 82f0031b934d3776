package vm

import (
	"foundling/api"
	"foundling/boot"
	"foundling/frame"
)

// leave: a context that runs: its Sender goes on with a word. Without one the process is over.
func (m *machine) leave(f *frame.Frame, w api.Word) {
	f.Leave()
	sender := f.Word(boot.Sender)
	if sender == m.nothing() {
		m.finish(m.active())
		return
	}
	m.goOn(sender)
	m.push(w)
}

// returns: a word, from the method in which the context, or its block, stands.
func (m *machine) returns(w api.Word) {
	between, isThere := m.untilHome()
	if !isThere {
		m.fault("cannotReturn:")
		return
	}
	home := between[len(between)-1]
	for _, f := range between {
		f.Leave()
	}
	m.leave(home, w)
}

// untilHome: the context that runs, its Sender, and so on up to its home, if that is among them, and hasn't been left. In memory that isn't sound Senders may lead back: there are no more than there are cells.
func (m *machine) untilHome() ([]*frame.Frame, bool) {
	f := m.frame()
	home := f.Home()
	if home.Over() {
		return nil, false
	}
	var out []*frame.Frame
	for range m.Cells() {
		out = append(out, f)
		if f.Context() == home.Context() {
			return out, true
		}
		next, e := frame.Open(m.Heap, m.root, f.Word(boot.Sender))
		if e != api.OK {
			return nil, false
		}
		f = next
	}
	return nil, false
}
