package vm

import (
	"slices"
	"strings"
	"testing"

	"foundling/api"
	"foundling/boot"
	"foundling/frame"
	"foundling/sound"
	"foundling/step"
)

// chainOf: the contexts of a process, from the one that it runs on.
func (m *Machine) chainOf(p api.Word) []api.Word {
	in := m.inside
	return frame.Chain(in.Heap, in.root, in.word(p, contextAt))
}

// isLeft: has a context been left?
func (m *Machine) isLeft(context api.Word) bool {
	f, e := frame.Open(m.inside.Heap, m.inside.root, context)
	return e == api.OK && f.Over()
}

// P24.1: contexts are left where they are returned from, and nowhere else; a process that is over has none, waits for nothing, and isn't active.
func TestLeft(t *testing.T) {
	t.Parallel()
	left, over := 0, 0
	programs(t, 20000, 20500, func(seed int64, text string) {
		m := machineOf(t, enough, optionsOf(seed), text)
		for range 1500 {
			p := m.inside.active()
			before, faults := m.chainOf(p), strings.Count(lines(m.Events()), "FAULT")
			line := step.Text(m.inside.Heap, m.inside.root, m.inside.context())
			if m.Run(1) != Running || m.Collected() > 0 {
				return // what was collected stands elsewhere
			}
			if p == m.inside.nothing() {
				continue
			}
			after := m.chainOf(p)
			isReturn := strings.HasSuffix(line, " Return") || strings.HasSuffix(line, " End")
			if strings.Count(lines(m.Events()), "FAULT") > faults {
				isReturn = false
			}
			if m.inside.isOver(p) {
				over++
				if p == m.inside.active() || m.inside.word(p, 3) != m.inside.nothing() || len(after) > 0 {
					t.Errorf("P24.1: a process that is over is active, or waits")
				}
			}
			for _, c := range before {
				isThere := slices.Contains(after, c)
				if isThere && m.isLeft(c) {
					t.Errorf("P24.1: a context that stands in the chain has been left")
				}
				if isThere || !isReturn { // whether those of a process that is ended are left isn't said
					continue
				}
				left++
				if !m.isLeft(c) {
					t.Errorf("P24.1: a context that was returned from hasn't been left")
				}
			}
		}
	})
	if left < 1000 || over < 200 {
		t.Errorf("the test tries too little: %d, %d", left, over)
	}
}

// A home that has been left, whatever stands in the chain: nothing is returned from it.
func TestHomeLeft(t *testing.T) {
	for _, isLeft := range []bool{false, true} {
		m := machineOf(t, 30000, Options{}, start("self each: [:k | k digits out. ^3]. 'never' out! each: b b value: 7"))
		for len(m.Events()) == 0 {
			m.Run(1)
		}
		in := m.inside
		f, _ := frame.Open(in.Heap, in.root, in.context())
		if f.Word(boot.Home) == in.nothing() {
			t.Fatalf("the test's context is no block's")
		}
		want := "7"
		if isLeft {
			f.Home().Leave()
			want = "7 / FAULT cannotReturn:"
		}
		if end := m.Run(99); end != Done || lines(m.Events()) != want {
			t.Errorf("P24.1: left (%v): %s, %s; want %s", isLeft, lines(m.Events()), names[end], want)
		}
	}
}

// What a process has that runs, gives way, waits, is over, by the calls of layer 23 alone.
func TestSchedule(t *testing.T) {
	m := machineOf(t, 30000, Options{Ticks: []int{8}}, start("| s | s := Semaphore new setup. s timer. [s wait] process priority: 4; resume. 'x' out. self yield. 'y' out"))
	in := m.inside
	first := in.active()
	for len(m.Events()) == 0 {
		m.Run(1)
	}
	schedule := in.special(sound.Schedule)
	timer := in.word(schedule, boot.Timer)
	if in.active() != first || timer == in.nothing() || !in.isSemaphore(timer) {
		t.Errorf("P24.1: active %x, timer %x", in.active(), timer)
	}
	if end := m.Run(99); end != Done || in.active() != in.nothing() || !in.isOver(first) || in.word(schedule, boot.Timer) != timer {
		t.Errorf("P24.1: %s, active %x", names[end], in.active())
	}
}
