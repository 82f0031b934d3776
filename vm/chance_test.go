package vm

import (
	"fmt"
	"math/rand"
	"slices"
	"strings"
	"testing"

	"foundling/api"
	"foundling/gc"
	"foundling/image"
	"foundling/sema"
)

// fuel: how many messages and jumps back the model plays; most: steps, that are more than these come to.
const (
	fuel = 1200
	most = 40000
)

// enough: cells for whatever fits in that.
const enough = 150000

// optionsOf: by chance.
func optionsOf(seed int64) Options {
	r := rand.New(rand.NewSource(seed))
	o := Options{Input: make([]byte, r.Intn(4)), Count: []int{0, 0, 5, -20}[r.Intn(4)]}
	r.Read(o.Input)
	switch r.Intn(5) {
	case 0:
	case 1: // at each count
		for n := range 400 {
			o.Ticks = append(o.Ticks, n-30)
		}
	default:
		for range r.Intn(60) {
			o.Ticks = append(o.Ticks, r.Intn(400)-20)
		}
	}
	return o
}

// programs: those of some seeds that are programs.
func programs(t *testing.T, from, to int64, do func(seed int64, text string)) {
	t.Helper()
	for seed := from; seed < to; seed++ {
		text := program(seed)
		if _, problems := sema.Build(text, library()); len(problems) > 0 {
			continue // as a method has too many slots
		}
		do(seed, text)
		if t.Failed() {
			t.Fatalf("seed %d:\n%s", seed, text)
		}
	}
}

// same: has a machine done what the model has, as far as that went?
func (m *Machine) same(t *testing.T, what string, end int, want *model) {
	t.Helper()
	got, all := lines(m.Events()), lines(want.events)
	if want.end == Running { // the model's fuel was spent: the machine goes on
		if end == Running || strings.HasPrefix(got, all) {
			return
		}
	}
	if got != all || end != want.end || m.Count() != want.count || string(m.Rest()) != string(want.input) {
		t.Errorf("%s:\n%s, %s at %d, rest %x; want\n%s, %s at %d, rest %x", what, got, names[end], m.Count(), m.Rest(), all, names[want.end], want.count, want.input)
	}
}

// P24.1: programs by chance do what their source says.
func TestSource(t *testing.T) {
	t.Parallel()
	told := map[string]int{}
	programs(t, 0, 1600, func(seed int64, text string) {
		o := optionsOf(seed)
		want := newModel(o, fuel, text, library()).play()
		m := machineOf(t, enough, o, text)
		end := m.Run(most)
		m.same(t, "P24.1: a program", end, want)
		m.check(t, "a program")
		told[names[want.end]]++
		for _, e := range want.events {
			told[strings.Split(lines([]Event{e}), ":")[0]]++
		}
		if end == Running || end == OutOfMemory || end == Broken {
			told["not ended"]++
		}
	})
	for what, count := range map[string]int{"done": 500, "quit": 3, "end": 150, "FAULT cannotReturn": 20, "FAULT doesNotUnderstand": 150, "FAULT mustBeBoolean": 10, "SAVED": 40, "dnu": 50, "f30": 25, "f71": 25, "f76": 10, "f82": 10} {
		if told[what] < count {
			t.Errorf("the test tries too little: %s %d times", what, told[what])
		}
	}
	if told["not ended"] > 40 {
		t.Errorf("the test's programs don't end: %d", told["not ended"])
	}
}

// outcome: what of a machine may show.
func (m *Machine) outcome(end int) string {
	return fmt.Sprintf("%s, %s at %d, %d steps, rest %x", lines(m.Events()), names[end], m.Count(), m.Steps(), m.Rest())
}

// P24.2, P24.4, P24.5: collections, memory's size, and how steps are parted don't show; as many cells as are reached, and Margin, are enough, and no fewer. The memory is sound behind each step.
func TestNothingShows(t *testing.T) {
	t.Parallel()
	const longest = 3000
	bounds := 0
	programs(t, 5000, 5120, func(seed int64, text string) {
		r := rand.New(rand.NewSource(seed))
		o := optionsOf(seed)
		m := machineOf(t, enough, o, text)
		live, end := 0, Running
		for end == Running && m.Steps() < longest {
			now, _ := gc.Live(m.inside.Heap, m.inside.root)
			before := m.Steps()
			end = m.Run(1)
			if m.Steps() > before {
				live = max(live, now)
			}
			if m.Steps()%(1+int(seed)%20) == 0 {
				m.check(t, "a step")
			}
		}
		want := m.outcome(end)
		steps := m.Steps()
		if end != Running {
			steps += 1 + r.Intn(100)
		}
		for _, cells := range []int{live + Margin, live + Margin + 1, live + Margin + r.Intn(300), 2*live + Margin, enough * 2} {
			some := o
			for range r.Intn(40) {
				some.Collects = append(some.Collects, r.Intn(steps+2)-1)
			}
			if r.Intn(3) == 0 {
				some.Collects = upTo(steps)
			}
			m := machineOf(t, cells, some, text)
			if got := m.outcome(m.parted(r, steps)); got != want {
				t.Errorf("P24.2: with %d cells, and other collections:\n%s; want\n%s", cells, got, want)
			}
			m.check(t, "other collections")
		}
		less := machineOf(t, live+Margin-1, o, text)
		if less.Run(steps) == OutOfMemory {
			bounds++
		} else {
			t.Errorf("P24.4: with a cell less it goes on: %s", less.outcome(OutOfMemory))
		}
		if !strings.HasPrefix(lines(m.Events()), lines(less.Events())) {
			t.Errorf("P24.2: with a cell less: %s; want a beginning of %s", less.outcome(OutOfMemory), want)
		}
	})
	if bounds < 40 {
		t.Errorf("the test tries too little: %d", bounds)
	}
}

// upTo: all numbers from 1 on.
func upTo(n int) []int {
	var out []int
	for i := range n {
		out = append(out, i+1)
	}
	return out
}

// parted: so many steps, by some at a time.
func (m *Machine) parted(r *rand.Rand, steps int) int {
	end := m.Run(0)
	for steps > 0 {
		n := min(1+r.Intn(1+r.Intn(50)), steps)
		end = m.Run(n)
		steps -= n
		m.Run(-r.Intn(5))
	}
	return end
}

// P24.3: memory that is loaded from each snapshot goes on as the source does where that one answers true.
func TestSnapshots(t *testing.T) {
	t.Parallel()
	loaded := 0
	programs(t, 10000, 13000, func(seed int64, text string) {
		if !strings.Contains(text, "save") {
			return
		}
		o := optionsOf(seed)
		first := newModel(o, fuel, text, library()).play()
		m := machineOf(t, enough, o, text)
		for i, s := range first.savedAt {
			if i > 4 || slices.Contains(o.Ticks, s.count+1) {
				continue // what ticks there isn't in the snapshot
			}
			for m.Run(1) == Running && len(m.Events()) < s.events {
			}
			h, root, e := image.Decode(m.Image(), []int{enough, 2 * enough, 30000}[i%3])
			if e != api.OK {
				t.Fatalf("P24.3: image.Decode: %d", e)
			}
			again := newModel(o, fuel, text, library())
			again.saveTrue = i + 1
			again.play()
			other := o
			other.Count, other.Input = s.count+1, m.Rest()
			n := made(t, h, root, other)
			n.check(t, "a snapshot")
			end := n.Run(most)
			again.events = again.events[s.events:]
			n.same(t, fmt.Sprintf("P24.3: snapshot %d", i), end, again)
			n.check(t, "a snapshot that has run")
			loaded++
		}
		m.same(t, "P24.3: who has saved", m.Run(most), first)
	})
	if loaded < 60 {
		t.Errorf("the test tries too little: %d", loaded)
	}
}
