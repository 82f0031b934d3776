package play

import (
	"fmt"
	"slices"
	"strings"
	"testing"

	"foundling/api"
	"foundling/script"
	"foundling/sema"
)

// noFiles: what no files are.
func noFiles() string {
	var out []string
	for i := range sema.Kernel() {
		out = append(out, fmt.Sprintf("problem -1 %d 6", i))
	}
	return strings.Join(out, " | ")
}

// P27.1, the chapter's example: no files, an empty text.
func TestNoFiles(t *testing.T) {
	if want := "problem -1 0 6 | problem -1 1 6 | problem -1 2 6"; !strings.HasPrefix(noFiles(), want) || strings.Count(noFiles(), "problem") != 16 || !strings.HasSuffix(noFiles(), "problem -1 15 6") {
		t.Fatalf("the test is wrong: %s", noFiles())
	}
	for _, none := range [][]string{nil, {}, {""}, {"", " \n", ""}} {
		only(t, "P27.1: no files", none, "", noFiles())
		only(t, "P27.1: no files", none, "run 5/image/reload 3/spoil 1 1", noFiles())
	}
}

// P27.1, step 1: the text's error, in each of its lines, whatever the files are.
func TestScriptError(t *testing.T) {
	good := []string{"cells 5000", "", "run 3 # some", "spoil 3 3", "image", "reload 9000", "ticks 4 5", "input 07"}
	for bad, e := range map[string]int{"run": 3, "walk": 3, "run -1": 3, "run 01": 3, "image 1": 3, "cells 16777217": 9, "spoil 1 256": 9, "spoil 16777217 0": 9, "input 0": 3, "ticks 1 a": 3, "run 1\r": 3} {
		for i := range len(good) + 1 {
			text := strings.Join(slices.Insert(slices.Clone(good), i, bad), "\n")
			for _, list := range [][]string{nil, files("'hi' out"), {"x"}, slices.Repeat([]string{""}, 65)} {
				only(t, "P27.1: a script's error", list, text, fmt.Sprintf("script %d %d", i, e))
			}
		}
	}
	only(t, "P27.1: errors in several lines", files("nil"), "run 1/run 16777217/walk/run x", "script 1 9")
	only(t, "P27.1: errors in each line", files("nil"), "walk/run 16777217/run x", "script 0 3")
	only(t, "P27.1: two errors in a line", files("nil"), "run 1/ticks 16777217 x", "script 1 3")
	only(t, "P27.1: a long text", files("nil"), strings.Repeat(" ", api.MaxSource)+"x", "script 0 2")
	only(t, "P27.1: a long text", nil, strings.Repeat("run 1\n", api.MaxSource/6)+"walk 1", "script 0 2")
}

// P27.1: the longest text is taken.
func TestLongestText(t *testing.T) {
	text := "run 9" + strings.Repeat(" ", api.MaxSource-11) + "\nimage"
	if len(text) != api.MaxSource {
		t.Fatalf("the test is wrong: %d", len(text))
	}
	expect(t, "P27.1: the longest text", files("'hi' out"), text, `out "hi" | ran done 2 | image 6`)
}

// P27.1, step 2: problems, each with its file and place, and nothing else.
func TestProblems(t *testing.T) {
	k := kernel()
	for _, x := range []struct {
		files []string
		want  string
	}{
		{[]string{k, "UndefinedObject methods! start ^! !"}, "problem 1 32 3"},
		{[]string{k + "UndefinedObject methods! start ^nope! !"}, fmt.Sprintf("problem 0 %d 11", len(k)+32)},
		{[]string{"Nope methods! a! !", k, "Nope methods! a! b! !"}, "problem 0 14 6 | problem 2 14 6 | problem 2 17 6"},
		{[]string{k, "Object subclass: #A fields: 'a'! Nope subclass: #B fields: ''! Array subclass: #C fields: 'x'!"}, "problem 1 33 6 | problem 1 63 13"},
		{[]string{k, "x", "Object", "'"}, "problem 1 0 4 | problem 2 0 4 | problem 3 0 4"},
		{[]string{k, "x!", "", "'!"}, "problem 1 0 3 | problem 3 0 4"},
		{slices.Repeat([]string{""}, 65), "problem 64 0 2"},
		{[]string{k, k[:strings.Index(k, "Message")+3]}, ""},
	} {
		if x.want == "" { // of whatever sema tells
			_, problems := sema.Build(x.files...)
			var out []string
			for _, p := range problems {
				out = append(out, numbered("problem", p.File, p.At, int(p.Err)))
			}
			x.want = strings.Join(out, " | ")
		}
		for _, text := range []string{"", "run 5", "cells 0", "spoil 0 0/run 9/image"} {
			only(t, "P27.1: problems", x.files, text, x.want)
		}
		only(t, "P27.1: problems, and a script's error", x.files, "run 1/run", "script 1 3")
	}
	if p, _ := sema.Build(slices.Repeat([]string{""}, 64)...); len(p.Classes) > 0 {
		t.Error("64 files are a program")
	}
	only(t, "P27.1: 64 files", slices.Repeat([]string{""}, 64), "", noFiles())
	many := slices.Repeat([]string{""}, 60)
	expect(t, "P27.1: 64 files that are a program", append(many, files("'hi' out")...), "run 9", `out "hi" | ran done 2`)
}

// P27.1, step 3: memory of too few cells, and of just enough.
func TestCells(t *testing.T) {
	f := files("'hi' out")
	least := leastCells(t, f)
	for _, n := range []int{0, 1, 15} {
		only(t, "P27.1: no memory", f, fmt.Sprintf("cells %d/run 9", n), "boot 2")
	}
	for _, n := range []int{16, 17, 400, least / 2, least - 1} {
		only(t, "P27.1: too few cells", f, fmt.Sprintf("run 9/cells %d/image", n), "boot 8")
		only(t, "P27.1: the last cells count", f, fmt.Sprintf("cells 60000/cells %d/spoil 0 0", n), "boot 8")
	}
	expect(t, "P27.1: just enough to be made", f, fmt.Sprintf("cells %d", least), "")
	for _, n := range []int{least, least + 1, least + 399} {
		expect(t, "P27.1: less than the Margin", f, fmt.Sprintf("cells %d/run 0/run 9/run 9/run 0", n), "ran running 0 | ran memory 0 | ran memory 0 | ran memory 0")
	}
	expect(t, "P27.1: the Margin, and nothing for a context", f, fmt.Sprintf("cells %d/run 99", least+400), "ran memory 1")
	for _, n := range []int{least + 500, 60000, 60001, 1 << 24} {
		expect(t, "P27.1: enough cells", f, fmt.Sprintf("cells 3/run 99/cells %d", n), `out "hi" | ran done 2`)
	}
	expect(t, "P27.1: no cells are told", f, "run 9", `out "hi" | ran done 2`)
	// 60000 cells, where nothing is told: not many fewer, nor more.
	deep := files("^self deep: 1! deep: n n digits out. ^(self deep: n + 1) + 1")
	if got, want := lines(t, deep, "run 500000"), lines(t, deep, "cells 60000\nrun 500000"); !slices.Equal(got, want) || !strings.HasPrefix(got[len(got)-1], "ran memory ") {
		t.Errorf("P27.1: the usual cells: %s; want %s", got[len(got)-1], want[len(want)-1])
	}
	if got, other := lines(t, deep, "run 500000"), lines(t, deep, "cells 59990\nrun 500000"); slices.Equal(got, other) {
		t.Error("the test tells nothing of how many cells there are")
	}
}

// P27.1: run, whichever way the steps are parted, and behind each end.
func TestRun(t *testing.T) {
	loop := "| i | i := 0. [i < 3] whileTrue: [i digits out. i := i + 1]"
	for _, x := range []struct{ source, text, want string }{
		{"'hi' out", "", ""},
		{"'hi' out", "# run 5//  ", ""},
		{"'hi' out", "run 0", "ran running 0"},
		{"'hi' out", "run 0/run 0/run 9/run 0", `ran running 0 | ran running 0 | out "hi" | ran done 2 | ran done 2`},
		{"'hi' out", "run 1/run 1/run 1/run 1/run 1/run 1/run 1/run 1/run 1", `ran running 0 | ran running 1 | ran running 1 | out "hi" | ran running 2 | ran running 2 | ran running 2 | ran running 2 | ran running 2 | ran done 2`},
		{"'a' out. 'b' out. 'c' out", "run 16777216", `out "a" | out "b" | out "c" | ran done 4`},
		{"'a' out. 'b' out. 'c' out", "run 16777216/run 16777216/run 0", `out "a" | out "b" | out "c" | ran done 4 | ran done 4 | ran done 4`},
		{"'a' out. 'b' out. 'c' out", "run 6/run 2/run 6", `out "a" | ran running 2 | out "b" | ran running 3 | out "c" | ran running 4`},
		{"self foo. 'never' out", "run 9/run 9", `fault "doesNotUnderstand: foo" | ran done 2 | ran done 2`},
		{"'a' out. self quit. 'b' out", "run 99/run 99/run 0", `out "a" | ran quit 3 | ran quit 3 | ran quit 3`},
		{"[true] whileTrue", "run 3/run 4/run 3000", "ran running 1 | ran running 2 | ran running 1002"},
		{loop, "run 31/run 31/run 31", `out "0" | out "1" | ran running 10 | out "2" | ran done 17 | ran done 17`},
	} {
		expect(t, "P27.1: run", files(x.source), x.text, x.want)
	}
}

// P27.1: one run, and many that are as many steps together, show the same.
func TestParted(t *testing.T) {
	for _, source := range []string{"'a' out. self in digits out. self foo", "['x' out. self yield. 'y' out] process resume. 'z' out. self yield. self save ifTrue: ['t' out]. 'q' out", "'a' out. self quit", "self deep! deep 'd' out. ^self deep + 1"} {
		f := files(source)
		for total := 0; total < 60; total += 7 {
			whole := lines(t, f, fmt.Sprintf("input 05\nrun %d", total))
			for part := range 9 {
				text := "input 05\n"
				for left := total; left > 0; left -= min(left, part+1) {
					text += fmt.Sprintf("run %d\nrun 0\n", min(left, part+1))
				}
				parted := lines(t, f, text+"run 0")
				last := parted[len(parted)-1]
				isRan := func(s string) bool { return strings.HasPrefix(s, "ran ") }
				if got := append(slices.DeleteFunc(parted, isRan), last); !slices.Equal(got, whole) {
					t.Errorf("P27.1: %s: %d steps, by %d: %q; want %q", source, total, part+1, got, whole)
				}
			}
		}
	}
}

// P27.1: events of each kind, of any bytes, and none.
func TestEvents(t *testing.T) {
	f := files(`'' out. 'a"b\c~ ' out. 'x
y!!' out. (String new: 3) out. self bytes out. self save. self foo: 1 bar: 2! bytes | s | s := String new: 6. s at: 1 put: 31. s at: 2 put: 127. s at: 3 put: 255. s at: 4 put: 10. s at: 5 put: 32. s at: 6 put: 126. ^s`)
	expect(t, "P27.1: events", f, "run 999", `out "" | out "a\22b\5cc~ " | out "x\0ay!" | out "\00\00\00" | out "\1f\7f\ff\0a ~" | saved | fault "doesNotUnderstand: foo:bar:" | ran done 17`)
	expect(t, "P27.1: a long event", files("(String new: 5000) out. 'end' out"), "run 99", `out "`+strings.Repeat(`\00`, 5000)+`" | out "end" | ran done 4`)
	lines, events := Run(files("'a' out. 'b' out"), "run 99\nrun 9")
	if len(lines) != 5 || len(events) != 2 || string(events[0].Bytes) != "a" || string(events[1].Bytes) != "b" {
		t.Errorf("P27.1: events: %q, %v", lines, events)
	}
	if lines, events := Run(files("nil"), "run 99"); len(lines) != 2 || events != nil {
		t.Errorf("P27.1: no events: %q, %v", lines, events)
	}
}

// P27.1: commands of other kinds count wherever they stand, and those that do something in their order.
func TestOrder(t *testing.T) {
	f := files("| s | self in digits out. self in digits out. self in class == UndefinedObject ifTrue: ['none' out]. s := Semaphore new setup. s timer. s wait. 'tick' out. s wait. 'tock' out. s wait. 'never' out")
	want := `out "1" | out "2" | out "none" | out "tick" | out "tock" | ran done 42 | image 6`
	for _, text := range []string{
		"input 01 02/ticks 30 40/run 900/image",
		"run 900/image/input 0102/ticks 40 30",
		"input 01/run 900/ticks 30/image/cells 20000/input/input 02/ticks 40/ticks",
		"collects 1 2 3/ticks 30/run 900/ticks 40 40 30/image/input 01/input 02/collects 9 8",
		"  # first/collects/run   900 # then//image/ticks 40/cells 59999/ticks 30/input 01 02",
	} {
		expect(t, "P27.1: commands of all kinds", f, text, want)
	}
	only(t, "P27.1: half a byte behind all", f, "run 900/image/input 0 102", "script 2 3")
	expect(t, "P27.1: the order of input", files("self in digits out. self in digits out"), "input 02/run 99/input 01", `out "2" | out "1" | ran done 7`)
	expect(t, "P27.1: commands in their order", files("self save. 'a' out"), "image/reload 9000/run 2/image/run 99/reload 9000/run 1/run 99", `image 6 | reload 6 | ran running 1 | image 6 | saved | out "a" | ran done 3 | reloaded | ran running 3 | out "a" | ran done 4`)
}

// commandsOf: to be changed by chance.
func commandsOf(t testing.TB, text string) []script.Cmd {
	t.Helper()
	list, _, e := script.Parse(text)
	if e != api.OK {
		t.Fatalf("script.Parse: %d", e)
	}
	return list
}
