package vm

import (
	"slices"
	"sort"

	"foundling/api"
	"foundling/boot"
	"foundling/find"
	"foundling/frame"
	"foundling/gc"
	"foundling/proc"
	"foundling/step"
)

// machine: what a Machine is inside, so that what it embeds isn't seen from outside. What runs stands in memory alone, between the steps: a snapshot, or a collection, may come at any time.
type machine struct {
	memory
	cache                   find.Cache
	deeds                   map[int]deed
	input                   []byte
	ticks, collects         []int // rising
	count, steps, collected int
	end                     int
	events                  []Event
	image                   []byte
}

// run: so many steps, or fewer.
func (m *machine) run(steps int) int {
	for ; steps > 0 && m.end == Running; steps-- {
		m.step()
	}
	return m.end
}

// step: one instruction of the active process, with all that it comes to; or the machine comes to an end.
func (m *machine) step() {
	switch {
	case !m.choose():
		m.end = Done
	case !m.room():
		m.end = OutOfMemory
	default:
		m.instruct()
	}
}

// choose: is there one that runs, or comes next?
func (m *machine) choose() bool {
	for m.active() == m.nothing() {
		if !m.pull() && !m.idle() {
			return false
		}
	}
	return true
}

// idle: nobody runs, nor waits to run: the count goes to where it ticks next. False: it ticks no more, or there is no Timer.
func (m *machine) idle() bool {
	next := sort.Search(len(m.ticks), func(i int) bool { return m.ticks[i] > m.count })
	if next == len(m.ticks) || !m.isSemaphore(m.timer()) {
		return false
	}
	m.count = m.ticks[next]
	m.tick()
	return true
}

func (m *machine) timer() api.Word { return m.scheduled(boot.Timer) }

// tally: one message, or one jump back, more.
func (m *machine) tally() {
	m.count++
	if has(m.ticks, m.count) {
		m.tick()
	}
}

// has: is it among numbers that rise?
func has(list []int, n int) bool {
	_, isThere := slices.BinarySearch(list, n)
	return isThere
}

// tick: what wakes by it may come next, and so may others of the active one's priority. (If nobody is active, none is less.)
func (m *machine) tick() {
	m.signal(m.timer())
	if proc.Top(m.Heap, m.root) >= proc.Priority(m.Heap, m.root, m.active()) {
		m.giveWay()
	}
}

// room: are as many cells free as a step may take?
func (m *machine) room() bool {
	if m.Free() < Margin {
		m.collect()
	}
	return m.Free() >= Margin
}

// collect: what can't be reached, from the root and from these words, goes; the words, as they are then.
func (m *machine) collect(words ...api.Word) []api.Word {
	moved, e := gc.Collect(m.Heap, append([]api.Word{m.root}, words...)...)
	if e != api.OK {
		m.end = Broken
		return words
	}
	m.root = moved[0]
	m.cache.Forget()
	m.collected++
	return moved[1:]
}

// instruct: does the next instruction.
func (m *machine) instruct() {
	context := m.context()
	before := m.word(context, boot.Pc)
	a, e := step.Step(m.Heap, m.root, context)
	if e != api.OK {
		m.end = Broken
		return
	}
	m.act(a, before)
	if m.end == Broken || m.end == OutOfMemory {
		return
	}
	m.steps++
	if has(m.collects, m.steps) {
		m.collect()
	}
}

// act: what an instruction comes to. Before is where it stands.
func (m *machine) act(a step.Action, before api.Word) {
	switch a.Kind {
	case step.Sends, step.Supers:
		m.sends(a, before)
	case step.Back:
		m.tally()
	case step.Returns:
		m.returns(a.Word)
	case step.Ends:
		m.leave(m.frame(), a.Word)
	case step.Refused:
		m.fault("mustBeBoolean")
	}
}

// frame: the context of the active process, to work on. It is there behind a step: the instruction was one of its own.
func (m *machine) frame() *frame.Frame {
	f, _ := frame.Open(m.Heap, m.root, m.context())
	return f
}

// push: a word on the stack of what the active process runs.
func (m *machine) push(w api.Word) {
	if m.frame().Push(w) != api.OK {
		m.end = Broken
	}
}

// fault: ends the active process.
func (m *machine) fault(name string) {
	m.events = append(m.events, Event{Kind: Fault, Name: name})
	m.finish(m.active())
}
