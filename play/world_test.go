package play

import (
	"slices"
	"strconv"
	"strings"
	"testing"

	"foundling/api"
	"foundling/boot"
	"foundling/image"
	"foundling/pack"
	"foundling/script"
	"foundling/sema"
	"foundling/vm"
)

// basics: the file B of DOC.md's examples.
const basics = `String methods! out <primitive: 60>! !
SmallInteger methods! + a <primitive: 1>! < a <primitive: 12>! digits <primitive: 52>! !
Object methods! yield <primitive: 74>! save <primitive: 91>! in <primitive: 61>! count <primitive: 84>! !
Block methods! value <primitive: 40>! value: a <primitive: 41>! process <primitive: 70>! !
Process methods! resume <primitive: 71>! !
Class methods! new <primitive: 23>! !
Semaphore methods! setup <primitive: 80>! wait <primitive: 81>! signal <primitive: 82>! timer <primitive: 83>! !
`

// more: primitives that B hasn't.
const more = `Object methods! quit <primitive: 92>! gc <primitive: 90>! perform: a <primitive: 30>! perform: a all: b <primitive: 33>! class <primitive: 21>! hash <primitive: 22>! running <primitive: 77>! == a <primitive: 20>! copy <primitive: 29>! understands: a <primitive: 34>! !
SmallInteger methods! - a <primitive: 2>! * a <primitive: 3>! // a <primitive: 4>! \\ a <primitive: 5>! !
Class methods! new: a <primitive: 24>! name <primitive: 35>! super <primitive: 36>! !
Metaclass methods! super <primitive: 36>! !
Array methods! at: a <primitive: 25>! at: a put: b <primitive: 26>! size <primitive: 27>! !
String methods! , a <primitive: 57>! at: a <primitive: 25>! at: a put: b <primitive: 26>! size <primitive: 27>! symbol <primitive: 53>! text <primitive: 54>! = a <primitive: 56>! number <primitive: 59>! !
Process methods! suspend <primitive: 72>! terminate <primitive: 73>! priority: a <primitive: 76>! priority <primitive: 75>! !
Message methods! selector ^selector! arguments ^arguments! !
`

// kernel: a file of its classes.
func kernel() string {
	var b strings.Builder
	for _, c := range sema.Kernel() {
		b.WriteString(classLine(c.Name, c.Super, c.Own...))
	}
	return b.String()
}

// classLine: the chunk of a class.
func classLine(name, super string, fields ...string) string {
	if super == "" {
		super = "nil"
	}
	return super + " subclass: #" + name + " fields: '" + strings.Join(fields, " ") + "'!\n"
}

// start: a file of the first method, and of those that stand behind it, of the same class.
func start(text string) string { return "UndefinedObject methods! start " + text + "! !" }

// files: of a program that begins so.
func files(text string) []string { return []string{kernel(), basics, more, start(text)} }

// program: of files, which there must be.
func program(t testing.TB, files []string) sema.Program {
	t.Helper()
	p, problems := sema.Build(files...)
	if len(problems) > 0 {
		t.Fatalf("no program: %v\n%s", problems, strings.Join(files[max(0, len(files)-1):], "\n"))
	}
	return p
}

// imageOf: of files, which there must be.
func imageOf(t testing.TB, files []string, cells int) []byte {
	t.Helper()
	h, root, e := boot.Build(program(t, files), cells)
	if e != api.OK {
		t.Fatalf("boot.Build: %d", e)
	}
	b, e := image.Encode(h, root)
	if e != api.OK {
		t.Fatalf("image.Encode: %d", e)
	}
	return b
}

// leastCells: as many as the memory of files takes.
func leastCells(t testing.TB, files []string) int {
	t.Helper()
	h, _, e := boot.Build(program(t, files), 100000)
	if e != api.OK {
		t.Fatalf("boot.Build: %d", e)
	}
	return h.Used()
}

// sumLine: of an image.
func sumLine(what string, b []byte) string {
	return what + " " + strconv.Itoa(len(b)) + " " + strconv.FormatUint(uint64(pack.Crc(b)), 10)
}

// bootLine: of files.
func bootLine(t testing.TB, files []string) string {
	t.Helper()
	return sumLine("boot", imageOf(t, files, 60000))
}

// lined: a text, with / for a byte 10.
func lined(s string) string { return strings.ReplaceAll(s, "/", "\n") }

// lines: of Run, and that it tells the same events as it lists.
func lines(t testing.TB, files []string, text string) []string {
	t.Helper()
	lines, events := Run(files, text)
	var told []string
	for _, x := range lines {
		if strings.Contains(x, "\n") {
			t.Errorf("P27.1: a line with a byte 10: %q", x)
		}
		if word, _, _ := strings.Cut(x, " "); word == "out" || word == "fault" || word == "saved" {
			told = append(told, x)
		}
	}
	var listed []string
	for _, e := range events {
		listed = append(listed, eventLine(e))
	}
	if !slices.Equal(told, listed) {
		t.Errorf("P27.1: the lines %q; the events %q", told, listed)
	}
	return lines
}

// eventLine: of one that has nothing but what its kind has.
func eventLine(e vm.Event) string {
	switch {
	case e.Kind == vm.Out && e.Name == "":
		return `out "` + quoted(e.Bytes) + `"`
	case e.Kind == vm.Fault && e.Bytes == nil:
		return `fault "` + quoted([]byte(e.Name)) + `"`
	case e.Kind == vm.Saved && e.Bytes == nil && e.Name == "":
		return "saved"
	}
	return "no event"
}

func quoted(list []byte) string {
	var b strings.Builder
	for _, c := range list {
		if c < 32 || c > 126 || c == '"' || c == '\\' {
			b.WriteString("\\" + string("0123456789abcdef"[c/16]) + string("0123456789abcdef"[c%16]))
			continue
		}
		b.WriteByte(c)
	}
	return b.String()
}

// expect: of files, and a text with / for bytes 10, the lines behind the boot line, with " | " between.
func expect(t *testing.T, what string, files []string, text, want string) {
	t.Helper()
	got := lines(t, files, lined(text))
	all := []string{bootLine(t, files)}
	if want != "" {
		all = append(all, strings.Split(want, " | ")...)
	}
	if !slices.Equal(got, all) {
		t.Errorf("%s: %s:\n%s; want\n%s", what, text, strings.Join(got, " | "), strings.Join(all, " | "))
	}
}

// only: of files and a text just these lines, with " | " between, and no events.
func only(t *testing.T, what string, files []string, text, want string) {
	t.Helper()
	got, events := Run(files, lined(text))
	if strings.Join(got, " | ") != want || events != nil {
		t.Errorf("%s: %.60q: %q, %d events; want %q", what, text, got, len(events), want)
	}
}

// scriptOf: the text of commands.
func scriptOf(t testing.TB, list ...script.Cmd) string {
	t.Helper()
	s, e := script.Text(list...)
	if e != api.OK {
		t.Fatalf("script.Text: %d", e)
	}
	return s
}
