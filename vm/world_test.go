package vm

import (
	"fmt"
	"slices"
	"strings"
	"testing"

	"foundling/api"
	"foundling/boot"
	"foundling/heap"
	"foundling/sema"
	"foundling/sound"
)

// library: the kernel, and messages for primitives. What fails shows it, by its own number.
func library() string {
	var b strings.Builder
	for _, c := range sema.Kernel() {
		super := c.Super
		if super == "" {
			super = "nil"
		}
		b.WriteString(super + " subclass: #" + c.Name + " fields: '" + strings.Join(c.Own, " ") + "'!\n")
	}
	b.WriteString("Message methods! selector ^selector! arguments ^arguments! !\nObject methods!\n")
	for _, line := range strings.Split(messages, "\n") {
		pattern, n, isOne := strings.Cut(line, " = ")
		if isOne {
			b.WriteString(fmt.Sprintf("%s <primitive: %s> 'f%s' out!\n", pattern, n, n))
		}
	}
	b.WriteString("out <primitive: 60>! digits <primitive: 52> ^'?'!\n!\n")
	return b.String()
}

// messages: by the numbers of primitives.
const messages = `
+ a = 1
- a = 2
< a = 12
== a = 20
class = 21
new = 23
new: a = 24
at: a = 25
at: a put: b = 26
size = 27
symbol = 53
, a = 57
in = 61
perform: a = 30
perform: a with: b = 31
perform: a with: b with: c = 32
perform: a all: b = 33
value = 40
value: a = 41
value: a value: b = 42
all: a = 43
params = 44
process = 70
resume = 71
suspend = 72
terminate = 73
yield = 74
priority = 75
priority: a = 76
running = 77
setup = 80
wait = 81
signal = 82
timer = 83
count = 84
gc = 90
save = 91
quit = 92
`

// memoryOf: of the library and some more.
func memoryOf(t *testing.T, cells int, files ...string) (*heap.Heap, api.Word) {
	t.Helper()
	p, problems := sema.Build(append(slices.Clone(files), library())...)
	if len(problems) > 0 {
		t.Fatalf("no program: %v\n%s", problems, strings.Join(files, "\n"))
	}
	h, root, e := boot.Build(p, cells)
	if e != api.OK {
		t.Fatalf("boot.Build: %d", e)
	}
	return h, root
}

// machineOf: of the library and some more.
func machineOf(t *testing.T, cells int, o Options, files ...string) *Machine {
	t.Helper()
	h, root := memoryOf(t, cells, files...)
	return made(t, h, root, o)
}

// made: a machine, which there must be.
func made(t *testing.T, h *heap.Heap, root api.Word, o Options) *Machine {
	t.Helper()
	m, e := New(h, root, o)
	if e != api.OK {
		t.Fatalf("P24.1: New: %d", e)
	}
	return m
}

// check: is the memory of a machine sound?
func (m *Machine) check(t *testing.T, what string) {
	t.Helper()
	if n := sound.Check(m.inside.Heap, m.inside.root); n != 0 {
		t.Errorf("P24.5: %s: the memory breaks rule %d", what, n)
	}
}

// lines: events as text.
func lines(list []Event) string {
	var out []string
	for _, e := range list {
		switch {
		case e.Kind == Out && e.Name == "":
			out = append(out, string(e.Bytes))
		case e.Kind == Fault && e.Bytes == nil:
			out = append(out, "FAULT "+e.Name)
		case e.Kind == Saved && e.Bytes == nil && e.Name == "":
			out = append(out, "SAVED")
		default:
			out = append(out, fmt.Sprintf("NO EVENT %+v", e))
		}
	}
	return strings.Join(out, " / ")
}

// names: of ends.
var names = []string{"running", "done", "quit", "memory", "broken"}

// start: a file of the first method, and those that stand behind it of the same class.
func start(text string) string { return "UndefinedObject methods! start " + text + "! !" }
