package play

import (
	"math/rand"
	"slices"
	"strings"
	"testing"

	"foundling/api"
	"foundling/script"
	"foundling/vm"
)

// ended: the words of a line that tells how it is.
func ended(lines []string) string { return strings.Fields(lines[len(lines)-1])[1] }

// tracedSources: that end in each way, or not.
var tracedSources = []string{
	"nil",
	"'a' out. self in digits out. self count digits out. self in class == UndefinedObject ifTrue: ['none' out]. self save. self save ifTrue: ['never' out]. self foo",
	"['x' out. self yield. 'y' out] process resume. 'z' out. self yield. self save. 'q' out. self quit. 'never' out",
	"'a' out. self deep: 1! deep: n n digits out. ^(self deep: n + 1) + 1",
	"| s | s := Semaphore new setup. s timer. s wait. self count digits out. s wait. self count digits out. nil ifTrue: [1]",
	"| i | i := 0. [true] whileTrue: [i digits out. self gc. i := i + 1]",
}

// P27.3: Trace shows what Run of the same does.
func TestTrace(t *testing.T) {
	told := map[string]int{}
	for _, source := range tracedSources {
		f := files(source)
		least := leastCells(t, f)
		for _, cells := range []int{least, least + 420, least + 700, 60000} {
			for i, steps := range []int{0, 1, 2, 7, 30, 100, 3000} {
				o := vm.Options{Input: []byte{7, 8}[:i%3], Ticks: []int{40, 20, 8, 20}[:i%5], Collects: []int{3, 9, 2}[:i%4]}
				text := scriptOf(t, script.Cmd{Kind: script.Cells, N: cells}, script.Cmd{Kind: script.Input, Bytes: o.Input}, script.Cmd{Kind: script.Ticks, List: o.Ticks}, script.Cmd{Kind: script.Collects, List: o.Collects}, script.Cmd{Kind: script.Run, N: steps})
				lines, ran := Run(f, text)
				events, end, e := Trace(f, o, cells, steps)
				var got []string
				for _, x := range events {
					got = append(got, eventLine(x))
				}
				got = append(got, "ran "+strings.Fields("running done quit memory broken")[end])
				want := append(slices.Clone(lines[1:len(lines)-1]), "ran "+ended(lines))
				if e != api.OK || !slices.Equal(got, want) || len(ran) != len(events) || (events == nil) != (len(events) == 0) {
					t.Errorf("P27.3: %s: %d steps in %d cells: %q, %d; want %q", source, steps, cells, got, e, want)
				}
				told[ended(lines)]++
			}
		}
	}
	for _, end := range []string{"running", "done", "quit", "memory"} {
		if told[end] < 3 {
			t.Errorf("the test tries too little: %s %d times", end, told[end])
		}
	}
}

// P27.3: Trace of fewer steps begins Trace of more; the last event of none, or of fewer than none, is none.
func TestTraceFewer(t *testing.T) {
	for _, source := range tracedSources {
		f := files(source)
		o := vm.Options{Input: []byte{7}, Ticks: []int{9, 14, 30}}
		all, end, _ := Trace(f, o, 3000, 4000)
		before, seen := 0, map[int]bool{}
		for steps := range 60 {
			events, now, e := Trace(f, o, 3000, steps)
			if e != api.OK || len(events) < before || len(events) > before+1 || now != vm.Running && now != end {
				t.Errorf("P27.3: %s: %d steps: %d events, %d, %d", source, steps, len(events), now, e)
			}
			for i, x := range events {
				if eventLine(x) != eventLine(all[i]) {
					t.Errorf("P27.3: %s: %d steps: event %d is %s; want %s", source, steps, i, eventLine(x), eventLine(all[i]))
				}
			}
			before = len(events)
			seen[before] = true
		}
		if len(seen) != before+1 {
			t.Errorf("P27.3: %s: events come together", source)
		}
		for _, steps := range []int{0, -1, -1 << 62} {
			if events, end, e := Trace(f, o, 3000, steps); events != nil || end != vm.Running || e != api.OK {
				t.Errorf("P27.3: %d steps: %d events, %d, %d", steps, len(events), end, e)
			}
		}
	}
}

// P27.3: Trace's errors, beside which there is nothing.
func TestTraceErrors(t *testing.T) {
	f := files("'hi' out")
	least := leastCells(t, f)
	for _, x := range []struct {
		files []string
		cells int
		want  api.Errno
	}{
		{nil, 60000, api.ErrForm},
		{[]string{""}, 60000, api.ErrForm},
		{append(slices.Clone(f), "x!"), 60000, api.ErrForm},
		{append(slices.Clone(f), "UndefinedObject methods! a ^b! !"), 60000, api.ErrForm},
		{slices.Repeat([]string{""}, 65), 60000, api.ErrForm},
		{f, -1 << 62, api.ErrSize},
		{f, -1, api.ErrSize},
		{f, 0, api.ErrSize},
		{f, 15, api.ErrSize},
		{f, 1<<24 + 1, api.ErrSize},
		{f, 16, api.ErrFull},
		{f, least - 1, api.ErrFull},
		{f, least, api.OK},
		{f, 1 << 24, api.OK},
	} {
		for _, steps := range []int{0, 1, 99} {
			events, end, e := Trace(x.files, vm.Options{}, x.cells, steps)
			if e != x.want || e != api.OK && (events != nil || end != 0) {
				t.Errorf("P27.3: %d files, %d cells, %d steps: %d events, %d, %d; want %d", len(x.files), x.cells, steps, len(events), end, e, x.want)
			}
		}
	}
}

// P27.3: what comes from outside by numbers that no script can have.
func TestTraceOptions(t *testing.T) {
	f := files("| s | self count digits out. s := Semaphore new setup. s timer. s wait. self count digits out. s wait. self count digits out")
	for _, x := range []struct {
		o    vm.Options
		want string
	}{
		{vm.Options{}, "1"},
		{vm.Options{Count: -20}, "-19"},
		{vm.Options{Count: -20, Ticks: []int{-5, -40, -1 << 62}}, "-19 -5"},
		{vm.Options{Count: 1 << 40, Ticks: []int{1 << 50, 9, 1 << 45}}, "1099511627777 35184372088832 1125899906842624"},
		{vm.Options{Count: 5, Ticks: []int{9, 10, 11, 12}, Collects: []int{-1, 0, 1, 5, 1 << 62}}, "6 13"},
	} {
		o := vm.Options{Input: slices.Clone(x.o.Input), Ticks: slices.Clone(x.o.Ticks), Collects: slices.Clone(x.o.Collects), Count: x.o.Count}
		events, end, e := Trace(f, x.o, 9000, 500)
		var got []string
		for _, v := range events {
			got = append(got, string(v.Bytes))
		}
		if strings.Join(got, " ") != x.want || end != vm.Done || e != api.OK {
			t.Errorf("P27.3: Trace with %v: %q, %d, %d; want %s", x.o, got, end, e, x.want)
		}
		if !slices.Equal(o.Ticks, x.o.Ticks) || !slices.Equal(o.Collects, x.o.Collects) {
			t.Errorf("P1: what was handed in has changed: %v; want %v", x.o, o)
		}
	}
}

// P27.2: the same twice; what is handed in stays, and what is answered is new.
func TestMemory(t *testing.T) {
	f := files("'hi' out. self in digits out. self save. 'end' out")
	kept := slices.Clone(f)
	room := append(slices.Clone(f), "room")[:len(f)]
	text := "input 07\nticks 4\nrun 99\nreload 9000\nrun 99\nimage"
	lines, events := Run(room, text)
	again, others := Run(f, text)
	if !slices.Equal(lines, again) || len(events) != len(others) {
		t.Errorf("P27.2: twice: %q, %q", lines, again)
	}
	for i := range lines {
		lines[i] = "x"
	}
	for i := range events {
		for j := range events[i].Bytes {
			events[i].Bytes[j] = 'x'
		}
		_ = append(events[i].Bytes, "spare"...)
	}
	for i := range others {
		if others[i].Kind == vm.Out && strings.Contains(string(others[i].Bytes), "x") {
			t.Errorf("P27.2: answers share memory: %q", others[i].Bytes)
		}
	}
	third, _ := Run(f, text)
	if !slices.Equal(third, again) || !slices.Equal(f, kept) || room[:len(f)+1][len(f)] != "room" {
		t.Errorf("P27.2: a third time: %q; want %q", third, again)
	}
	o := vm.Options{Input: []byte{7}, Ticks: []int{9, 4}[:1], Collects: []int{5, 3}}
	first, _, _ := Trace(f, o, 9000, 99)
	for i := range first {
		clear(first[i].Bytes)
	}
	second, _, _ := Trace(f, o, 9000, 99)
	if string(second[0].Bytes) != "hi" || o.Input[0] != 7 || !slices.Equal(o.Ticks[:2], []int{9, 4}) || !slices.Equal(o.Collects, []int{5, 3}) {
		t.Errorf("P27.2: Trace twice: %q, %v", second[0].Bytes, o)
	}
}

// definitions: of files, each a file of its own.
func definitions(sources []string) []string {
	var out []string
	for _, line := range strings.Split(kernel(), "\n") {
		if line != "" {
			out = append(out, line)
		}
	}
	for _, file := range append(slices.Clone(sources), basics, more) {
		for _, line := range strings.Split(strings.TrimSpace(file), "\n") {
			head, rest, isHeader := strings.Cut(line, "methods!")
			if !isHeader {
				out = append(out, line)
				continue
			}
			for _, m := range strings.SplitAfter(strings.TrimSuffix(rest, " !"), "!") {
				if strings.TrimSpace(m) != "" {
					out = append(out, head+"methods!"+m+" !")
				}
			}
		}
	}
	return out
}

// P27.2, P7: definitions in another order, and in other files, show the same, line by line.
func TestAnyOrder(t *testing.T) {
	t.Parallel()
	source := classLine("P", "Object", "a", "b") + classLine("Q", "P", "c") + `P methods! a: x a := x. b := x + 1! b ^b! !
Q methods! b ^super b + 1! !
P class methods! with: x ^self new a: x; value! !
UndefinedObject methods! start (P new a: 4; b) digits out. (Q new a: 4; b) digits out. (self save ifTrue: [#again] ifFalse: ['first']) out. ['p' out. self yield. 'q' out] process resume. self yield. 'r' out. P with: 3! !
Object methods! value ^self! !
`
	text := "ticks 9 12\nrun 20\nimage\nrun 100\nreload 9000\nrun 300\nimage\nrun 2"
	list := definitions([]string{source})
	var want []string
	var bytes []byte
	for seed := range 60 {
		r := rand.New(rand.NewSource(int64(seed)))
		r.Shuffle(len(list), func(i, j int) { list[i], list[j] = list[j], list[i] })
		f := make([]string, 1+r.Intn(64))
		for _, d := range list {
			i := r.Intn(len(f))
			f[i] += d + []string{"", " ", "\n\n", " !"}[r.Intn(4)]
		}
		got := lines(t, f, text)
		if want == nil {
			want, bytes = got, imageOf(t, f, 60000)
		}
		if !slices.Equal(imageOf(t, f, 60000), bytes) {
			t.Fatalf("P7: another image, of %d files", len(f))
		}
		if !slices.Equal(got, want) || !strings.HasPrefix(got[0], "boot ") || len(got) < 15 {
			t.Fatalf("P27.2: %d files: %q; want %q\n%q", len(f), got, want, f)
		}
		events, end, e := Trace(f, vm.Options{Ticks: []int{9, 12}}, 60000, 120)
		var shown []string
		for _, x := range events {
			shown = append(shown, eventLine(x))
		}
		isRun := func(s string) bool { return strings.HasPrefix(s, "ran") || strings.HasPrefix(s, "image") }
		first := slices.DeleteFunc(slices.Clone(want[1:slices.Index(want, "reloaded")]), isRun)
		if e != api.OK || end != vm.Done || !slices.Equal(shown, first) {
			t.Fatalf("P27.3: Trace: %q, %d, %d; want %q", shown, end, e, first)
		}
	}
}
