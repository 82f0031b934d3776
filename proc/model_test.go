package proc

import (
	"fmt"
	"maps"
	"slices"

	"foundling/api"
	"foundling/boot"
	"foundling/head"
	"foundling/heap"
	"foundling/sound"
)

// model: the chapter's words, with plain lists. Of what is neither a process nor a semaphore it knows nothing.
type model struct {
	*world
	base     *heap.Heap // as it was at first
	active   api.Word
	priority map[api.Word]int
	cause    map[api.Word]api.Word // what a process waits for
	run      [6][]api.Word
	signals  map[api.Word]int64
	queues   map[api.Word][]api.Word
	unset    map[api.Word]int // those of the class Semaphore that are none yet
}

func newModel(w *world) *model {
	m := &model{world: w, base: w.h.Clone(), active: w.first, priority: map[api.Word]int{w.first: 3}, cause: map[api.Word]api.Word{}, signals: map[api.Word]int64{}, queues: map[api.Word][]api.Word{}, unset: map[api.Word]int{}}
	for i, p := range w.processes {
		m.priority[p] = i%5 + 1
	}
	for i, s := range w.semaphores {
		m.unset[s] = i
	}
	return m
}

// cell: of an object's word among all words of memory.
func cell(p api.Word, i int) int {
	at, _ := head.At(p)
	return at + i // the head has two cells, and Words lacks the first two
}

// expected: all words of memory.
func (m *model) expected() []api.Word {
	words := m.base.Words()
	nothing := m.nothing()
	set := func(p api.Word, i int, x api.Word) {
		if x == 0 {
			x = nothing
		}
		words[cell(p, i)] = x
	}
	schedule := m.special(sound.Schedule)
	set(schedule, boot.Active, m.active)
	for p, n := range m.priority {
		set(p, 1, num(int64(n)))
		set(p, 2, 0)
		set(p, 3, m.cause[p])
	}
	chain := func(holder api.Word, first int, list []api.Word) {
		set(holder, first, 0)
		set(holder, first+1, 0)
		for i, p := range list {
			if i == 0 {
				set(holder, first, p)
			} else {
				set(list[i-1], 2, p)
			}
			set(holder, first+1, p)
		}
	}
	for n := 1; n <= 5; n++ {
		chain(schedule, 2*n-1, m.run[n])
	}
	for s, n := range m.signals {
		set(s, 0, num(n))
		chain(s, 1, m.queues[s])
	}
	return words
}

// check: is memory as it should be, and is what it tells?
func (m *model) check(what string) {
	m.t.Helper()
	if want := m.expected(); !slices.Equal(m.h.Words(), want) || m.h.Last() != 0 {
		m.t.Errorf("P23.1: %s: memory isn't as it should be", what)
	}
	if n := sound.Check(m.h, m.root); n != 0 {
		m.t.Errorf("P23.4: %s: memory breaks rule %d", what, n)
	}
	if got := Active(m.h, m.root); got != m.active {
		m.t.Errorf("P23.1: %s: Active %x, want %x", what, got, m.active)
	}
	if got := Top(m.h, m.root); got != m.top() {
		m.t.Errorf("P23.1: %s: Top %d, want %d", what, got, m.top())
	}
	if got := List(m.h, m.root); !slices.Equal(got, m.list()) {
		m.t.Errorf("P23.3: %s: List %x, want %x", what, got, m.list())
	}
	for _, x := range m.everyone() {
		if got := Priority(m.h, m.root, x); got != m.priority[x] {
			m.t.Errorf("P23.1: %s: Priority(%x) = %d, want %d", what, x, got, m.priority[x])
		}
		if got := Waits(m.h, m.root, x); got != (m.cause[x] != 0) {
			m.t.Errorf("P23.1: %s: Waits(%x) = %v", what, x, got)
		}
		if got := Queue(m.h, m.root, x); !slices.Equal(got, m.queues[x]) {
			m.t.Errorf("P23.3: %s: Queue(%x) = %x, want %x", what, x, got, m.queues[x])
		}
	}
	m.once(what)
}

// once: does everyone stand in at most one place (P23.2)?
func (m *model) once(what string) {
	m.t.Helper()
	seen := map[api.Word]int{}
	lists := [][]api.Word{List(m.h, m.root)}
	for _, s := range m.semaphores {
		lists = append(lists, Queue(m.h, m.root, s))
	}
	for _, p := range slices.Concat(lists...) {
		seen[p]++
		if seen[p] > 1 || !Waits(m.h, m.root, p) {
			m.t.Errorf("P23.2: %s: %x waits %d times", what, p, seen[p])
		}
	}
}

func (m *model) top() int {
	for n := 5; n > 0; n-- {
		if len(m.run[n]) > 0 {
			return n
		}
	}
	return 0
}

func (m *model) list() []api.Word {
	var out []api.Word
	for n := 5; n > 0; n-- {
		out = append(out, m.run[n]...)
	}
	return out
}

func (m *model) isFree(p api.Word) bool { return m.priority[p] != 0 && m.cause[p] == 0 }

func (m *model) setActive(p api.Word) {
	if m.priority[p] != 0 || p == m.nothing() {
		m.active = p
	}
}

func (m *model) setPriority(p api.Word, n int) bool {
	if !m.isFree(p) || n < 1 || n > 5 {
		return false
	}
	m.priority[p] = n
	return true
}

func (m *model) ready(p api.Word) bool {
	if !m.isFree(p) || p == m.active {
		return false
	}
	n := m.priority[p]
	m.run[n] = append(m.run[n], p)
	m.cause[p] = num(int64(n))
	return true
}

func (m *model) pull() (api.Word, bool) {
	list := m.list()
	if len(list) == 0 {
		return 0, false
	}
	m.remove(list[0])
	return list[0], true
}

func (m *model) remove(p api.Word) bool {
	if m.cause[p] == 0 {
		return false
	}
	delete(m.cause, p)
	isIt := func(x api.Word) bool { return x == p }
	for n := range m.run {
		m.run[n] = slices.DeleteFunc(slices.Clone(m.run[n]), isIt)
	}
	for _, s := range slices.Collect(maps.Keys(m.queues)) {
		m.queues[s] = slices.DeleteFunc(slices.Clone(m.queues[s]), isIt)
	}
	return true
}

func (m *model) setup(s api.Word) bool {
	if _, isThere := m.unset[s]; !isThere {
		return false
	}
	delete(m.unset, s)
	m.signals[s] = 0
	return true
}

func (m *model) wait(s, p api.Word) (bool, bool) {
	n, isOne := m.signals[s]
	switch {
	case !isOne || !m.isFree(p):
		return false, false
	case n > 0:
		m.signals[s]--
		return false, true
	}
	m.queues[s] = append(m.queues[s], p)
	m.cause[p] = s
	return true, true
}

func (m *model) signal(s api.Word) (api.Word, bool) {
	n, isOne := m.signals[s]
	switch {
	case !isOne:
		return 0, false
	case len(m.queues[s]) > 0:
		p := m.queues[s][0]
		m.remove(p)
		return p, true
	}
	m.signals[s] = min(n, api.MaxInt-1) + 1
	return 0, true
}

// call: one of the calls that change something, of memory and of the model: alike?
func (m *model) call(kind int, x, y api.Word, n int) {
	m.t.Helper()
	var got, want [2]any
	both := func(a, b any) [2]any { return [2]any{a, b} }
	what := ""
	switch kind {
	case 0:
		what = "Ready"
		got[0], want[0] = Ready(m.h, m.root, x), m.ready(x)
	case 1:
		what = "Pull"
		got, want = both(Pull(m.h, m.root)), both(m.pull())
	case 2:
		what = "Remove"
		got[0], want[0] = Remove(m.h, m.root, x), m.remove(x)
	case 3:
		what = "Setup"
		got[0], want[0] = Setup(m.h, m.root, x), m.setup(x)
	case 4:
		what = "Wait"
		got, want = both(Wait(m.h, m.root, x, y)), both(m.wait(x, y))
	case 5:
		what = "Signal"
		got, want = both(Signal(m.h, m.root, x)), both(m.signal(x))
	case 6:
		what = "SetActive"
		SetActive(m.h, m.root, x)
		m.setActive(x)
	case 7:
		what = "SetPriority"
		got[0], want[0] = SetPriority(m.h, m.root, x, n), m.setPriority(x, n)
	}
	what = fmt.Sprintf("%s of %x, %x, %d", what, x, y, n)
	if got != want {
		m.t.Errorf("P23.1: %s: %v, want %v", what, got, want)
	}
	m.check(what)
}
