package play

import (
	"math/rand"
	"slices"
	"strings"
	"testing"

	"foundling/api"
	"foundling/sema"
	"foundling/vm"
)

// anySource: has a bit of all.
const anySource = "Object subclass: #P fields: 'a b'!\nP subclass: #Q fields: ''!\nP methods! a: x | t | t := x. a := t. b := [:y | ^y + 1] value: t! b ^b! !\nQ class methods! make ^self new a: 3; b! !\nUndefinedObject methods! start | i s | i := 0. [i < 3] whileTrue: [i digits out. i := i + 1]. #(1 $a 'b' foo: (x)) == nil ifFalse: ['it''s' out]. (Q make) digits out. (self save ifTrue: [#again] ifFalse: ['first']) out. s := Semaphore new setup. s timer. ['p' out. s signal] process resume. s wait. self in digits out. \"note\" self foo: -3 bar: 4! !"

// anyText: has a command of each kind.
const anyText = "cells 9000 # few\n\nticks 7 40\n input 07 0809\ncollects 3 50\nrun 60\nimage\nspoil 1 78\nreload 9000\nrun 200\nreload 700\nreload 15\nimage"

// agrees: does Run tell what the model does, and Trace what Run does?
func agrees(t *testing.T, files []string, text string) []string {
	t.Helper()
	got := lines(t, files, text)
	if want := modelLines(files, text); !slices.Equal(got, want) {
		t.Fatalf("P27.4: %.300q, %.100q: %q; want %q", files, text, got, want)
	}
	return got
}

// traced: does Trace answer as Run of the same?
func traced(t *testing.T, files []string) {
	t.Helper()
	lines, ran := Run(files, "run 90")
	events, end, e := Trace(files, vm.Options{}, 60000, 90)
	if e != api.OK {
		if e != api.ErrForm || events != nil || end != 0 || !strings.HasPrefix(lines[0], "problem ") {
			t.Fatalf("P27.3: %d, beside %q", e, lines)
		}
		return
	}
	if !slices.EqualFunc(events, ran, func(a, b vm.Event) bool { return eventLine(a) == eventLine(b) }) || ended(lines) != []string{"running", "done", "quit", "memory", "broken"}[end] {
		t.Fatalf("P27.3: Trace: %d events, %d; Run: %q", len(events), end, lines)
	}
}

// neverBoth: the file's problems, or lines of an image; never both.
func neverBoth(t *testing.T, lines []string, told map[string]int) {
	t.Helper()
	word, _, _ := strings.Cut(lines[0], " ")
	for _, x := range lines {
		if strings.HasPrefix(x, "problem ") != (word == "problem") {
			t.Fatalf("P7: both: %q", lines)
		}
	}
	told[word]++
}

// P27.4, P7: files that are cut, or changed, at each place.
func TestAnyFiles(t *testing.T) {
	t.Parallel()
	told := map[string]int{}
	r := rand.New(rand.NewSource(1))
	bytes := "!'#:|()[]^.; \n\"a1-+<=P\x00\xff$"
	for n, file := range []string{anySource, kernel()} {
		rest := []string{kernel(), basics}
		if n == 1 {
			rest = []string{anySource, basics}
		}
		for at := range file {
			c := string(bytes[r.Intn(len(bytes))])
			for i, s := range []string{file[:at], file[at:], file[:at] + file[at+1:], file[:at] + c + file[at+1:], file[:at] + c + file[at:]} {
				if n == 1 && (at+i)%5 > 0 {
					continue
				}
				f := slices.Insert(slices.Clone(rest), r.Intn(3), s)
				got := lines(t, f, anyText)
				neverBoth(t, got, told)
				if at%7 == 0 {
					agrees(t, f, anyText)
					traced(t, f)
				}
			}
		}
	}
	if told["boot"] < 300 || told["problem"] < 1000 {
		t.Errorf("the test tries too little: %v", told)
	}
}

// P27.4: texts that are cut, or changed, at each place.
func TestAnyText(t *testing.T) {
	t.Parallel()
	told := map[string]int{}
	r := rand.New(rand.NewSource(2))
	bytes := "0123456789 \n#abcdefnrust-\x00\xff"
	f := []string{kernel(), basics, anySource}
	for at := range anyText {
		c := string(bytes[r.Intn(len(bytes))])
		for _, s := range []string{anyText[:at], anyText[at:], anyText[:at] + anyText[at+1:], anyText[:at] + c + anyText[at+1:], anyText[:at] + c + anyText[at:]} {
			got := agrees(t, f, s)
			neverBoth(t, got, told)
		}
	}
	if told["boot"] < 120 || told["script"] < 150 {
		t.Errorf("the test tries too little: %v", told)
	}
}

// P27.4: any bytes, as files and as text.
func TestAnyBytes(t *testing.T) {
	t.Parallel()
	chance := func(r *rand.Rand, from string) string {
		b := make([]byte, r.Intn(200))
		for i := range b {
			b[i] = byte(r.Intn(256))
			if from != "" {
				b[i] = from[r.Intn(len(from))]
			}
		}
		return string(b)
	}
	for seed := range 400 {
		r := rand.New(rand.NewSource(int64(seed)))
		from := []string{"", anySource, "!#'"}[seed%3]
		f := []string{kernel(), chance(r, from), chance(r, from)}[:r.Intn(4)]
		traced(t, f)
		for _, text := range []string{"", chance(r, ""), chance(r, "run 1\n")} {
			agrees(t, f, text)
		}
	}
	for _, n := range []int{0, 1, 63, 64, 65, 200} {
		agrees(t, slices.Repeat([]string{"!"}, n), "run 1")
	}
	agrees(t, []string{strings.Repeat(" ", api.MaxSource+1)}, "")
	agrees(t, []string{strings.Repeat("(", api.MaxSource)}, "")
}

// P27.4, P1: what asks for much comes to an end, too.
func TestGreat(t *testing.T) {
	t.Parallel()
	deep := strings.Repeat("(", 37) + "3" + strings.Repeat(" + 1)", 37)
	for _, x := range []struct{ source, end string }{
		{deep + " digits out", "done"},
		{"[true] whileTrue", "running"},
		{"self start", "memory"},
		{"[:x | x value: x] value: [:x | x value: x]", "memory"},
		{"| a | a := nil. [true] whileTrue: [a := (Array new: 2) at: 1 put: a; at: 2 put: a; value]! value ^self", "fault"},
		{"| a | [true] whileTrue: [a := Array new: 1048576]", "memory"},
		{"| s | s := 'ab'. [true] whileTrue: [s := s , s]", "memory"},
		{"[true] whileTrue: ['abc' symbol]", "running"},
		{"| i s | i := 0. s := ''. [true] whileTrue: [i := i + 1. (s , i digits) symbol]", "running"},
		{"[true] whileTrue: [['x' out] process]", "running"},
		{"[true] whileTrue: [self running resume; suspend]", "done"},
		{"| l | l := Array new: 2. l at: 1 put: #perform:all:. l at: 2 put: l. self perform: #perform:all: all: l", "running"},
	} {
		f := files(x.source)
		got := lines(t, f, "run 30000")
		if last := got[len(got)-1]; !strings.HasPrefix(last, "ran "+x.end) && !strings.HasPrefix(got[len(got)-2], x.end) {
			t.Errorf("P27.4: %s: %q", x.source, got)
		}
	}
	if _, problems := sema.Build(files(deep)...); len(problems) > 0 {
		t.Errorf("the test is wrong: %v", problems)
	}
}
