package proc

import (
	"fmt"
	"math"
	"math/rand"
	"slices"
	"testing"

	"foundling/api"
	"foundling/boot"
	"foundling/sema"
	"foundling/small"
	"foundling/sound"
)

// The chapter's example.
func TestExample(t *testing.T) {
	w := newWorld(t)
	p, q, r := w.processes[2], w.processes[4], w.processes[7]
	if Priority(w.h, w.root, p) != 3 || Priority(w.h, w.root, q) != 5 || !SetPriority(w.h, w.root, r, 3) {
		t.Fatalf("the test's priorities")
	}
	for _, x := range []api.Word{p, q, r} {
		if !Ready(w.h, w.root, x) {
			t.Errorf("P23.1: Ready(%x) is false", x)
		}
	}
	if n := Top(w.h, w.root); n != 5 {
		t.Errorf("P23.1: Top = %d", n)
	}
	for _, want := range []api.Word{q, p, r} {
		if x, isThere := Pull(w.h, w.root); x != want || !isThere {
			t.Errorf("P23.3: Pull = %x, %v, want %x", x, isThere, want)
		}
	}
	if x, isThere := Pull(w.h, w.root); x != 0 || isThere || Top(w.h, w.root) != 0 {
		t.Errorf("P23.1: Pull of none = %x, %v", x, isThere)
	}
}

// What boot makes: one process that is active, and nobody who waits.
func TestFresh(t *testing.T) {
	p, problems := sema.Build(source())
	h, root, e := boot.Build(p, 3000)
	if len(problems) > 0 || e != api.OK {
		t.Fatalf("no memory: %v, %d", problems, e)
	}
	first := Active(h, root)
	if Priority(h, root, first) != 3 || Waits(h, root, first) || Ready(h, root, first) || Remove(h, root, first) || Top(h, root) != 0 || len(List(h, root)) != 0 {
		t.Errorf("P23.1: the first process is %x: %d, %v", first, Priority(h, root, first), List(h, root))
	}
	if _, isThere := Pull(h, root); isThere {
		t.Errorf("P23.1: somebody waits to run")
	}
}

// Each call that changes something, of each word, or pair of words, from each of some states.
func TestEach(t *testing.T) {
	states := [][][4]int{
		{},
		{{0, 0}, {0, 1}, {0, 2}, {0, 3}, {0, 4}, {0, 5}, {0, 6}, {0, 7}},                   // all wait to run, but one
		{{3, 10}, {3, 11}, {4, 10, 1}, {4, 10, 2}, {4, 10, 3}, {4, 11, 4}, {0, 5}, {0, 6}}, // some for semaphores
		{{3, 10}, {3, 11}, {3, 12}, {5, 10}, {5, 10}, {5, 11}, {4, 12, 9}},                 // some signals
		{{6, 1}, {0, 0}, {3, 13}, {4, 13, 1}, {0, 1}, {0, 6}, {0, 2}},                      // another one is active, and waits
	}
	for i, state := range states {
		base := newWorld(t)
		all := base.everyone()
		for kind := range 8 {
			for a := range all {
				others := []int{0}
				if kind == 4 && (a >= 10 && a < 16 || a%5 == 0) {
					others = nil
					for b := range all {
						others = append(others, b)
					}
				}
				for _, b := range others {
					for _, n := range numbersOf(kind, a) {
						w := base.again()
						m := newModel(w)
						for _, c := range state {
							m.quietly(c)
						}
						m.call(kind, all[a], all[b], n)
						if t.Failed() {
							t.Fatalf("P23.1: in state %d", i)
						}
					}
				}
			}
		}
	}
}

// numbersOf: those that are tried as priorities.
func numbersOf(kind, a int) []int {
	if kind != 7 || a > 12 {
		return []int{3}
	}
	return []int{math.MinInt, -1, 0, 1, 2, 3, 4, 5, 6, 1<<32 + 1, math.MaxInt}
}

// again: another world like it.
func (w *world) again() *world {
	out := *w
	out.h = w.h.Clone()
	return &out
}

// quietly: a call, of words by their places among all, that leads to the state that is to be tried.
func (m *model) quietly(c [4]int) {
	all := m.everyone()
	switch x, y := all[c[1]], all[c[2]]; c[0] {
	case 0:
		Ready(m.h, m.root, x)
		m.ready(x)
	case 3:
		Setup(m.h, m.root, x)
		m.setup(x)
	case 4:
		Wait(m.h, m.root, x, y)
		m.wait(x, y)
	case 5:
		Signal(m.h, m.root, x)
		m.signal(x)
	case 6:
		SetActive(m.h, m.root, x)
		m.setActive(x)
	}
}

// Queues of none, one and many: of each the first, the middle and the last one is taken out, by Remove, Pull and Signal.
func TestTakenOut(t *testing.T) {
	for count := range 9 {
		for which := range count {
			for n := 1; n <= 5; n++ {
				m := newModel(newWorld(t))
				for _, p := range m.processes {
					m.call(7, p, 0, n)
				}
				for _, p := range m.processes[:count] {
					m.call(0, p, 0, 0)
				}
				m.call(2, m.processes[which], 0, 0)
				m.call(2, m.processes[which], 0, 0)
				m.call(1, 0, 0, 0)
				m.call(0, m.processes[which], 0, 0)
				for range count + 1 {
					m.call(1, 0, 0, 0)
				}
			}
			m := newModel(newWorld(t))
			s := m.semaphores[which%5]
			m.call(3, s, 0, 0)
			for _, p := range m.processes[:count] {
				m.call(4, s, p, 0)
			}
			m.call(2, m.processes[which], 0, 0)
			m.call(4, s, m.processes[which], 0)
			for range count + 3 {
				m.call(5, s, 0, 0)
			}
			for range 4 {
				m.call(4, s, m.processes[which], 0)
			}
		}
	}
}

// Signals up to the greatest number, and back; a semaphore whose signals are below 0 has none.
func TestMostSignals(t *testing.T) {
	w := newWorld(t)
	s, p := w.semaphores[0], w.processes[0]
	Setup(w.h, w.root, s)
	for _, c := range []struct{ have, more, less int64 }{{api.MaxInt, api.MaxInt, api.MaxInt - 1}, {api.MaxInt - 1, api.MaxInt, api.MaxInt - 1}, {api.MaxInt - 2, api.MaxInt - 1, api.MaxInt - 2}, {0, 1, 0}, {5, 6, 5}} {
		w.h.Put(s, 0, num(c.have))
		if x, isOne := Signal(w.h, w.root, s); x != 0 || !isOne || w.word(s, 0) != num(c.more) {
			t.Errorf("P23.1: Signal of %d: %x, %v, %d", c.have, x, isOne, int64(w.word(s, 0))>>1)
		}
		if waits, isDone := Wait(w.h, w.root, s, p); waits || !isDone || w.word(s, 0) != num(c.less) {
			t.Errorf("P23.1: Wait: %v, %v, %d", waits, isDone, int64(w.word(s, 0))>>1)
		}
	}
	w.h.Put(s, 0, num(-1))
	if waits, isDone := Wait(w.h, w.root, s, p); !waits || !isDone {
		t.Errorf("P23.1: Wait at a semaphore without signals: %v, %v", waits, isDone)
	}
}

// Setup of whatever the signals are: only those that are no number become 0.
func TestSetup(t *testing.T) {
	w := newWorld(t)
	for _, x := range []api.Word{w.nothing(), w.root, w.first, num(0), num(1), num(-1), num(api.MaxInt), num(api.MinInt)} {
		for _, s := range w.semaphores {
			w.h.Put(s, 0, x)
			w.h.Put(s, 1, w.processes[0])
			w.h.Put(s, 2, w.processes[1])
			before := w.h.Clone()
			got := Setup(w.h, w.root, s)
			switch {
			case small.Is(x):
				if got || !w.h.Same(before) {
					t.Errorf("P23.1: Setup of a semaphore with the signals %x: %v", x, got)
				}
			case !got || w.word(s, 0) != num(0) || w.word(s, 1) != w.nothing() || w.word(s, 2) != w.nothing():
				t.Errorf("P23.1: Setup with the signals %x: %v, %x", x, got, w.word(s, 0))
			}
		}
	}
}

// P23.1 to P23.4: calls of each kind, one behind the other, by chance.
func TestByChance(t *testing.T) {
	told := map[string]int{}
	for seed := range int64(60) {
		r := rand.New(rand.NewSource(seed))
		m := newModel(newWorld(t))
		all := m.everyone()
		crowd := len(m.processes) - r.Intn(len(m.processes)) // few processes meet more often
		process := func() api.Word {
			if r.Intn(20) == 0 {
				return all[r.Intn(len(all))]
			}
			return slices.Concat([]api.Word{m.first}, m.processes)[r.Intn(crowd+1)]
		}
		semaphore := func() api.Word {
			if r.Intn(20) == 0 {
				return all[r.Intn(len(all))]
			}
			return m.semaphores[r.Intn(1+r.Intn(len(m.semaphores)))]
		}
		for range 250 {
			kind := []int{0, 0, 0, 1, 2, 3, 4, 4, 4, 5, 5, 6, 7}[r.Intn(13)]
			x := process()
			if kind == 3 || kind == 4 || kind == 5 {
				x = semaphore()
			} else if kind == 6 && r.Intn(3) == 0 {
				x = m.nothing()
			}
			m.call(kind, x, process(), r.Intn(8)-1)
			told[fmt.Sprint("run ", min(len(m.list()), 4))]++
			for _, q := range m.queues {
				told[fmt.Sprint("queue ", min(len(q), 4))]++
			}
			if t.Failed() {
				t.Fatalf("P23.1: seed %d", seed)
			}
		}
	}
	for n := range 5 {
		if told[fmt.Sprint("run ", n)] < 20 || told[fmt.Sprint("queue ", n)] < 20 {
			t.Errorf("the test tries too little: %v", told)
		}
	}
}

// Memory (DOC.md): lists that are answered are new each time.
func TestNewLists(t *testing.T) {
	w := newWorld(t)
	Setup(w.h, w.root, w.semaphores[0])
	for i, p := range w.processes {
		if i%2 == 0 {
			Ready(w.h, w.root, p)
		} else {
			Wait(w.h, w.root, w.semaphores[0], p)
		}
	}
	for _, ask := range []func() []api.Word{
		func() []api.Word { return List(w.h, w.root) },
		func() []api.Word { return Queue(w.h, w.root, w.semaphores[0]) },
	} {
		a, b := ask(), ask()
		want := slices.Clone(b)
		clear(a[:cap(a)])
		if len(a) < 3 || !slices.Equal(b, want) || !slices.Equal(ask(), want) {
			t.Errorf("Memory: a list that was answered is another one: %x", b)
		}
	}
	if n := sound.Check(w.h, w.root); n != 0 {
		t.Errorf("P23.4: memory breaks rule %d", n)
	}
}
