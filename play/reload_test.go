package play

import (
	"fmt"
	"math/rand"
	"slices"
	"strconv"
	"strings"
	"testing"

	"foundling/api"
	"foundling/image"
	"foundling/vm"
)

// again: begins with a snapshot, then shows what was loaded, and how.
const again = "(self save ifTrue: ['again'] ifFalse: ['first']) out. "

// P27.1: reload, of a snapshot and of none, and how it is behind it.
func TestReload(t *testing.T) {
	for _, x := range []struct{ source, text, want string }{
		{"'hi' out", "reload 9000/run 99/reload 9000/run 1", `reload 6 | out "hi" | ran done 2 | reload 6 | ran done 2`},
		{"'hi' out", "reload 0/reload 15/reload 16777216", "reload 6 | reload 6 | reload 6"},
		{again + "'end' out", "run 3/reload 9000/run 0/run 99", `ran running 1 | reload 6 | ran running 1 | saved | out "first" | out "end" | ran done 4`},
		{again + "'end' out", "run 4/reload 9000/run 0/run 99", `saved | ran running 2 | reloaded | ran running 2 | out "again" | out "end" | ran done 4`},
		{again + "'end' out", "run 99/reload 0/reload 15/reload 16/reload 700/run 0/reload 9000/run 99", `saved | out "first" | out "end" | ran done 4 | reload 2 | reload 2 | reload 8 | reload 8 | ran done 4 | reloaded | out "again" | out "end" | ran done 6`},
		{again + "'end' out", "run 99/reload 9000/reload 9000/run 0/reload 9000/run 5/reload 9000/run 99/run 99", `saved | out "first" | out "end" | ran done 4 | reloaded | reloaded | ran running 4 | reloaded | out "again" | ran running 5 | reloaded | out "again" | out "end" | ran done 7 | ran done 7`},
		{again + "self quit", "run 99/reload 9000/run 99/run 99", `saved | out "first" | ran quit 4 | reloaded | out "again" | ran quit 6 | ran quit 6`},
		{again + "self foo", "run 99/reload 9000/run 99", `saved | out "first" | fault "doesNotUnderstand: foo" | ran done 4 | reloaded | out "again" | fault "doesNotUnderstand: foo" | ran done 6`},
		// A snapshot of a machine that was loaded, or of one ahead of it.
		{again + again + "'end' out", "run 99/reload 9000/run 99/reload 9000/run 99/reload 9000/run 6", `saved | out "first" | saved | out "first" | out "end" | ran done 6 | reloaded | out "again" | out "end" | ran done 8 | reloaded | out "again" | out "end" | ran done 10 | reloaded | out "again" | ran running 11`},
		{again + again + "'end' out", "run 8/reload 9000/run 2/reload 9000/run 99/reload 9000/run 99", `saved | out "first" | ran running 3 | reloaded | ran running 3 | reloaded | out "again" | saved | out "first" | out "end" | ran done 7 | reloaded | out "again" | out "end" | ran done 9`},
		// What is saved behind the last reload is what is loaded next, though other machines have saved, too.
		{"'a' out. self save ifTrue: ['b' out. self save ifTrue: ['c' out. self save ifTrue: ['d' out]]]", "run 99/reload 9000/run 99/reload 9000/run 99/reload 9000/run 99/reload 9000/run 99", `out "a" | saved | ran done 3 | reloaded | out "b" | saved | ran done 5 | reloaded | out "c" | saved | ran done 7 | reloaded | out "d" | ran done 8 | reloaded | out "d" | ran done 9`},
		// The script's cells, and what was spoilt, are the first machine's alone.
		{again, "cells 9000/spoil 0 70/run 99/reload 60000/run 99", `saved | out "first" | ran done 3 | reloaded | out "again" | ran done 4`},
		{again, "run 99/image/reload 9000/image/run 99", "!"},
		{again, "image/run 3/image/run 1/reload 9000/reload 5/image/run 99/image", "!"},
	} {
		f := files(x.source)
		if x.want == "!" {
			if got, want := lines(t, f, lined(x.text)), modelLines(f, lined(x.text)); !slices.Equal(got, want) {
				t.Errorf("P27.1: reload, image: %q; want %q", got, want)
			}
			continue
		}
		expect(t, "P27.1: reload", f, x.text, x.want)
	}
}

// snapshotOf: of files, behind so many steps.
func snapshotOf(t *testing.T, files []string, o vm.Options, steps int) []byte {
	t.Helper()
	h, root, e := image.Decode(imageOf(t, files, 60000), 60000)
	if e != api.OK {
		t.Fatalf("image.Decode: %d", e)
	}
	m, e := vm.New(h, root, o)
	if e != api.OK {
		t.Fatalf("vm.New: %d", e)
	}
	m.Run(steps)
	return m.Image()
}

// P27.1: reload in too few cells, and in just enough; image ahead of a snapshot, and behind it.
func TestReloadCells(t *testing.T) {
	f := files(again)
	b := snapshotOf(t, f, vm.Options{}, 99)
	used := (len(b)-36)/8 + 2
	first := `saved | out "first" | ran done 3`
	expect(t, "P27.1: reload with a cell less", f, fmt.Sprintf("run 99/reload %d/run 1", used-1), first+" | reload 8 | ran done 3")
	expect(t, "P27.1: reload with just enough", f, fmt.Sprintf("run 99/reload %d/run 0/run 99/run 99", used), first+" | reloaded | ran running 3 | ran memory 3 | ran memory 3")
	for _, n := range []int{used + 401, 1 << 24} {
		expect(t, "P27.1: reload with enough", f, fmt.Sprintf("run 99/reload %d/run 99", n), first+` | reloaded | out "again" | ran done 4`)
	}
	expect(t, "P27.1: behind memory's end", f, fmt.Sprintf("run 99/reload %d/run 99/reload 9000/run 99", used), first+` | reloaded | ran memory 3 | reloaded | out "again" | ran done 4`)
	sum := sumLine("image", b)
	expect(t, "P27.1: image", f, "image/run 3/image/run 1/image/run 99/image/image/reload 3/image/reload 9000/image/run 99/image", "image 6 | ran running 1 | image 6 | saved | ran running 2 | "+sum+` | out "first" | ran done 3 | `+sum+" | "+sum+" | reload 2 | "+sum+" | reloaded | "+sum+` | out "again" | ran done 4 | `+sum)
	if !strings.HasPrefix(sum, "image ") || len(b) < 5000 {
		t.Errorf("the test is wrong: %s", sum)
	}
}

// P27.1: the last snapshot is the one that counts, and its bytes are told.
func TestImageOfLast(t *testing.T) {
	f := files("self save. Array new: 50. self save. self save ifTrue: ['t' out. Array new: 70. self save]. 'end' out")
	var got []string
	for _, n := range []int{4, 11, 14, 99} {
		b := snapshotOf(t, f, vm.Options{}, n)
		got = append(got, sumLine("image", b))
		all := lines(t, f, fmt.Sprintf("run %d\nimage", n))
		if all[len(all)-1] != got[len(got)-1] {
			t.Errorf("P27.1: image behind %d steps: %q; want %s", n, all, got[len(got)-1])
		}
	}
	if got[0] == got[1] || got[2] != got[3] {
		t.Errorf("the test tells too little: %q", got)
	}
	first := snapshotOf(t, f, vm.Options{}, 99)
	h, root, _ := image.Decode(first, 60000)
	m, _ := vm.New(h, root, vm.Options{})
	m.Run(99)
	if len(m.Image()) <= len(first) {
		t.Fatal("the test tells too little")
	}
	want := sumLine("image", first) + ` | reloaded | ` + sumLine("image", first) + ` | out "t" | saved | out "end" | ran done 10 | ` + sumLine("image", m.Image())
	all := lines(t, f, "run 99\nimage\nreload 60000\nimage\nrun 99\nimage")
	if tail := strings.Join(all[6:], " | "); tail != want {
		t.Errorf("P27.1: image behind a reload: %s; want %s", tail, want)
	}
}

// P27.1: the input that is left goes on, and isn't that which was there when the snapshot was taken.
func TestReloadInput(t *testing.T) {
	f := files("self in digits out. self save. self show. self show! show | b | b := self in. b == nil ifTrue: ['none' out] ifFalse: [b digits out]")
	for _, x := range []struct{ text, want string }{
		{"input 010203040506/run 999/reload 9000/run 999/reload 9000/run 999", `out "1" | saved | out "2" | out "3" | ran done 15 | reloaded | out "4" | out "5" | ran done 25 | reloaded | out "6" | out "none" | ran done 34`},
		{"input 010203/run 9/reload 9000/run 999/input 04", `out "1" | saved | ran running 5 | reloaded | out "2" | out "3" | ran done 15`},
		{"input 01/run 999/reload 9000/run 999", `out "1" | saved | out "none" | out "none" | ran done 13 | reloaded | out "none" | out "none" | ran done 21`},
	} {
		expect(t, "P27.1: the input that is left", f, x.text, x.want)
	}
}

// P27.1: Ticks and the count go on; Ticks that were there aren't again.
func TestReloadTicks(t *testing.T) {
	f := files("| s | s := Semaphore new setup. s timer. self save. s wait. self count digits out. s wait. self count digits out. s wait. self count digits out")
	for _, x := range []struct{ text, want string }{
		{"ticks 20 30 40 50 60/run 999/reload 9000/run 999/reload 9000/run 999", `saved | out "20" | out "30" | out "40" | ran done 60 | reloaded | ran done 61 | reloaded | ran done 62`},
		{"ticks 20 30 40 50 60/run 20/reload 9000/run 999", `saved | out "20" | ran running 23 | reloaded | out "30" | out "40" | out "50" | ran done 60`},
		{"run 20/reload 9000/ticks 70 60 50 40 30 20/run 3/reload 9000/run 10/reload 9000/run 999", `saved | out "20" | ran running 23 | reloaded | ran running 24 | reloaded | out "30" | ran running 33 | reloaded | out "40" | out "50" | out "60" | ran done 70`},
		{"run 999/reload 9000/run 999/ticks 20", `saved | out "20" | ran done 24 | reloaded | ran done 25`},
		{"run 12/reload 9000/run 999/ticks 20", `saved | ran running 5 | reloaded | out "20" | ran done 24`},
	} {
		expect(t, "P27.1: Ticks and the count", f, x.text, x.want)
	}
	// A tick takes turns.
	turns := files("['x' out. 'y' out. 'z' out] process resume. self save. 'a' out. 'b' out. 'c' out. 'd' out")
	expect(t, "P27.1: turns", turns, "ticks 5 10/run 99/reload 9000/run 99", `saved | out "a" | out "x" | out "y" | out "z" | out "b" | out "c" | out "d" | ran done 11 | reloaded | out "a" | out "b" | out "c" | out "d" | out "x" | out "y" | out "z" | ran done 18`)
}

// P27.1: Collects are as ever, behind the steps of each machine: how great a snapshot is tells it.
func TestReloadCollects(t *testing.T) {
	f := files("Array new: 30. self save. Array new: 40. self save. Array new: 50. Array new: 60. Array new: 70. self save. 'end' out")
	sizes := map[string]bool{}
	for _, collects := range []string{"", "5", "20", "5 9", "12", "9 12 14", "1 2 3 4 5 6 7 8 9 10 11 12 13 14 15 16"} {
		text := "collects " + collects + "\nrun 99\nimage\nreload 60000\nrun 99\nimage\nreload 60000\nrun 99\nimage\nreload 60000\nrun 9\nimage"
		got := lines(t, f, text)
		if want := modelLines(f, text); !slices.Equal(got, want) {
			t.Errorf("P27.1: collects %s: %q; want %q", collects, got, want)
		}
		sizes[strings.Join(got, " ")] = true
	}
	if len(sizes) < 4 {
		t.Errorf("the test tells too little: %d", len(sizes))
	}
	g := files("self save. Array new: 100. 'a' out. 'b' out. self save. 'c' out")
	var bytes []int
	for _, text := range []string{"run 4/reload 60000/run 99/image", "run 4/reload 60000/run 99/image/collects 7"} {
		got := lines(t, g, lined(text))
		n, _ := strconv.Atoi(strings.Fields(got[len(got)-1])[1])
		bytes = append(bytes, n)
	}
	if bytes[1] >= bytes[0] {
		t.Errorf("P27.1: a collection behind step 7 of the machine that was loaded: %d bytes; without it %d", bytes[1], bytes[0])
	}
}

// deeds of programs by chance, and commands of scripts.
var (
	parts    = []string{"'a' out", "self in class == UndefinedObject ifFalse: ['b' out]", "self yield", "['p' out. self yield. 'q' out] process resume", "s wait", "s signal", "self save", "(self save ifTrue: ['t'] ifFalse: ['f']) out", "self gc", "Array new: 60", "self count digits out", "i := 0. [i < 4] whileTrue: [i := i + 1. self save]", "self deep: 9", "[self save. self yield. 'r' out] process resume"}
	lasts    = []string{"self foo", "self quit", "nil ifTrue: [1]", "self deep: 5000", "'end' out", "[true] whileTrue: [i := 1]"}
	commands = []string{"run 0", "run 1", "run 5", "run 7", "run 20", "run 50", "run 300", "run 5000", "reload 9000", "reload 3000", "reload 2600", "reload 1500", "reload 60000", "reload 15", "image", "spoil 0 70", "input 05", "ticks 12 30 55", "ticks", "collects 3 9 14 40", "input 0607", "#", ""}
)

// P27.1: programs and scripts by chance, against a model that makes each machine anew.
func TestByChance(t *testing.T) {
	t.Parallel()
	told := map[string]int{}
	for seed := range 400 {
		r := rand.New(rand.NewSource(int64(seed)))
		var list []string
		for range 1 + r.Intn(7) {
			list = append(list, parts[r.Intn(len(parts))])
		}
		f := files("| s i | s := Semaphore new setup. s timer. " + strings.Join(append(list, lasts[r.Intn(len(lasts))]), ". ") + "! deep: n n < 1 ifTrue: [^0]. ^(self deep: n + -1) + 1")
		var script []string
		for range 2 + r.Intn(14) {
			script = append(script, commands[r.Intn(len(commands))])
		}
		script = append(script, fmt.Sprintf("cells %d", []int{60000, 2300, 3000, 9000, 200000}[r.Intn(5)]))
		text := strings.Join(script, "\n")
		got := lines(t, f, text)
		if want := modelLines(f, text); !slices.Equal(got, want) {
			t.Fatalf("P27.1: seed %d:\n%s\n%s\n%q; want\n%q", seed, f[3], text, got, want)
		}
		for _, x := range got {
			told[strings.TrimRight(x, "0123456789")]++
		}
	}
	for what, count := range map[string]int{"ran running ": 300, "ran done ": 100, "ran quit ": 30, "ran memory ": 30, "reload ": 60, "reloaded": 60, "image ": 60, "saved": 60} {
		if told[what] < count {
			t.Errorf("the test tries too little: %s %d times", what, told[what])
		}
	}
}
