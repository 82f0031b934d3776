package play

import (
	"slices"
	"sort"
	"strconv"
	"strings"
	"testing"

	"foundling/api"
	"foundling/find"
	"foundling/gen"
	"foundling/image"
	"foundling/intern"
	"foundling/script"
	"foundling/sema"
	"foundling/sound"
	"foundling/vm"
)

// DOC.md's ten examples, of the kernel, B and a start: the script's text, and the lines behind the first one.
func TestTenExamples(t *testing.T) {
	for _, x := range []struct{ source, text, want string }{
		{"'hi' out", "run 100", `out "hi" | ran done 2`},
		{"(3 + 4) digits out", "run 100", `out "7" | ran done 4`},
		{"self foo", "run 100", `fault "doesNotUnderstand: foo" | ran done 2`},
		{"nil ifTrue: ['never' out]", "run 9", `fault "mustBeBoolean" | ran done 1`},
		{"| i | i := 0. [i < 3] whileTrue: [i digits out. i := i + 1]", "run 99", `out "0" | out "1" | out "2" | ran done 17`},
		{"self in digits out. 'end' out", "input 07/run 5/run 90", `ran running 3 | out "7" | out "end" | ran done 5`},
		{"self late value! late ^[^1]", "run 99", `fault "cannotReturn:" | ran done 3`},
		{"['a' out. self yield. 'b' out] process resume. 'c' out. self yield. 'd' out", "run 99", `out "c" | out "a" | out "d" | out "b" | ran done 9`},
		{"(self save ifTrue: ['again'] ifFalse: ['first']) out", "run 50/reload 9000/run 50", `saved | out "first" | ran done 3 | reloaded | out "again" | ran done 4`},
		{"| s | s := Semaphore new setup. s timer. s wait. 'tick' out", "ticks 9/run 90", `out "tick" | ran done 10`},
	} {
		expect(t, "P27.1: an example", []string{kernel(), basics, "UndefinedObject methods! start " + x.source + "! !"}, x.text, x.want)
	}
}

// sources: those by chance that are programs.
func sources(from, to int64, do func(seed int64, files []string, play func(input []byte, loaded int) []string)) int {
	tried := 0
	for seed := from; seed < to; seed++ {
		source, play := meant(seed)
		f := []string{kernel(), basics, more, source}
		if _, problems := sema.Build(f...); len(problems) > 0 {
			continue // as a method has too many slots, or stands too deep
		}
		tried++
		do(seed, f, play)
	}
	return tried
}

// inputs: by chance.
func inputs(seed int64) []byte { return []byte{5, 0, 255}[:seed%4%3] }

// P2: programs by chance show just what their source means, with the count that it comes to.
func TestSource(t *testing.T) {
	t.Parallel()
	told := map[string]int{}
	tried := sources(0, 2500, func(seed int64, f []string, play func(input []byte, loaded int) []string) {
		want := play(inputs(seed), 0)
		text := scriptOf(t, script.Cmd{Kind: script.Input, Bytes: inputs(seed)}) + "run 100000"
		got := lines(t, f, text)
		if !slices.Equal(got[1:], want) {
			t.Fatalf("P2: seed %d:\n%s\n%q; want\n%q", seed, f[3], got[1:], want)
		}
		for _, x := range got {
			told[strings.TrimRight(x, "0123456789")]++
		}
	})
	for what, count := range map[string]int{`fault "mustBeBoolean"`: 50, `fault "cannotReturn:"`: 50, `fault "doesNotUnderstand: zork:bar:"`: 50, "saved": 100, `out "none"`: 50} {
		if told[what] < count {
			t.Errorf("the test tries too little: %s %d times", what, told[what])
		}
	}
	if tried < 2000 {
		t.Errorf("the test tries too little: %d", tried)
	}
}

// P3: the image is the program, as that tells by its own messages.
func TestReflection(t *testing.T) {
	names := []string{"P", "Q", "L"}
	for _, c := range sema.Kernel() {
		names = append(names, c.Name)
	}
	var b strings.Builder
	for _, n := range names {
		b.WriteString(n + " name text out. " + n + " class class == Metaclass ifFalse: ['class' out]. " + n + " class == Class ifTrue: ['own' out]. " + n + " name == '" + n + "' symbol ifFalse: ['name' out]. ")
		if n == "Object" {
			b.WriteString("Object super == nil ifFalse: ['top' out]. Object class super == Class ifFalse: ['top' out]. ")
		} else {
			b.WriteString(n + " class super == " + n + " super class ifFalse: ['mirror' out]. ")
		}
	}
	// A method has no more than so many literals.
	parts := strings.SplitAfter(b.String(), "'mirror' out]. ")
	var methods, calls string
	for i, x := range parts {
		methods += "! part" + strconv.Itoa(i) + " " + x
		calls += "self part" + strconv.Itoa(i) + ". "
	}
	f := []string{kernel(), basics, more, classLine("P", "Object", "a", "b") + classLine("Q", "P", "c") + classLine("L", "Array"), start(calls + "(P super == Object) == true ifTrue: ['P' out]. Q super == P ifTrue: ['Q' out]. L super == Array ifTrue: ['L' out]. (P class == Q class) == false ifTrue: ['metas' out]. 'end' out" + methods)}
	got := lines(t, f, "run 99999")
	var want []string
	for _, n := range names {
		want = append(want, `out "`+n+`"`)
	}
	want = append(want, `out "P"`, `out "Q"`, `out "L"`, `out "metas"`, `out "end"`)
	if !slices.Equal(got[1:len(got)-1], want) {
		t.Errorf("P3: %q; want %q", got, want)
	}
}

// P3: and as its words do.
func TestImageIsProgram(t *testing.T) {
	f := append(files("#foo size. #(foo (bar) 'foo') size"), classLine("P", "Object", "a", "foo"), classLine("Q", "P", "c"), "Q methods! foo ^#c! bar: x ^x! !", "Q class methods! foo ^1! !")
	h, root, e := image.Decode(imageOf(t, f, 60000), 60000)
	if e != api.OK || sound.Check(h, root) != 0 {
		t.Fatalf("P3: image.Decode: %d; sound.Check: %d", e, sound.Check(h, root))
	}
	nothing, metaclass := word(h, root, sound.Nil), word(h, root, sound.MetaClass)
	text := func(w api.Word) string { b, _ := h.Bytes(w); return string(b) }
	metas, symbols := map[api.Word]bool{}, map[string]api.Word{}
	for w := h.First(); w != 0; w = h.After(w) {
		if find.ClassOf(h, root, w) == word(h, root, sound.SymbolClass) {
			if symbols[text(w)] != 0 {
				t.Errorf("P3: two symbols %s", text(w))
			}
			symbols[text(w)] = w
		}
	}
	list := func(w api.Word, by int) string {
		d, _ := h.Head(w)
		var out []string
		for i := 0; i < d.Size; i += by {
			out = append(out, text(word(h, w, i)))
		}
		return strings.Join(out, " ")
	}
	named := func(outs []gen.Out) string {
		var out []string
		for _, m := range outs {
			out = append(out, m.Name)
		}
		return strings.Join(out, " ")
	}
	for _, c := range program(t, f).Classes {
		w, isThere := intern.Global(h, root, c.Name)
		meta := find.ClassOf(h, root, w)
		if !isThere || metas[meta] || find.ClassOf(h, root, meta) != metaclass || text(word(h, w, 3)) != c.Name || word(h, meta, 3) != w {
			t.Errorf("P3: the class of %s", c.Name)
		}
		metas[meta] = true
		super, above := nothing, word(h, root, sound.ClassClass)
		if c.Super != "" {
			super, _ = intern.Global(h, root, c.Super)
			above = find.ClassOf(h, root, super)
		}
		if word(h, w, 0) != super || word(h, meta, 0) != above {
			t.Errorf("P3: what is above %s", c.Name)
		}
		if got, want := list(word(h, w, 4), 1), strings.Join(c.Own, " "); got != want {
			t.Errorf("P3: fields of %s: %s; want %s", c.Name, got, want)
		}
		if got, want := list(word(h, w, 1), 2)+"/"+list(word(h, meta, 1), 2), named(c.Methods)+"/"+named(c.Metas); got != want {
			t.Errorf("P3: messages of %s: %s; want %s", c.Name, got, want)
		}
	}
	if symbols["foo"] == 0 || symbols["bar:"] == 0 {
		t.Error("the test is wrong")
	}
}

// P4: with as many cells as are enough, and with any more, the same is shown; with fewer it begins so.
func TestEnough(t *testing.T) {
	t.Parallel()
	tight := 0
	sources(5000, 5100, func(seed int64, f []string, play func(input []byte, loaded int) []string) {
		want := play(inputs(seed), 0)
		in := func(cells int) []string {
			return lines(t, f, scriptOf(t, script.Cmd{Kind: script.Input, Bytes: inputs(seed)}, script.Cmd{Kind: script.Cells, N: cells}, script.Cmd{Kind: script.Run, N: 100000}))[1:]
		}
		first := leastCells(t, f)
		least := first + sort.Search(10000, func(n int) bool { return slices.Equal(in(first+n), want) })
		for _, cells := range []int{least, least + 1, least + 2, least + 3, least + 100, least + 1001, 2 * least, 60000} {
			if got := in(cells); !slices.Equal(got, want) {
				t.Errorf("P4: seed %d: %d cells, where %d are enough: %q; want %q", seed, cells, least, got, want)
			}
		}
		for _, cells := range []int{first, (first + least) / 2, least - 2, least - 1} {
			got := in(cells)
			n := len(got) - 1
			if !strings.HasPrefix(got[n], "ran memory ") || n > len(want)-1 || !slices.Equal(got[:n], want[:n]) {
				t.Errorf("P2: seed %d: %d cells, where %d are enough: %q; want a beginning of %q", seed, cells, least, got, want)
			}
			if n > 0 {
				tight++
			}
		}
		if least > 2*first+vm.Margin {
			t.Errorf("P4: seed %d: %d cells for a program of %d", seed, least, first)
		}
	})
	if tight < 30 {
		t.Errorf("the test tries too little: %d", tight)
	}
}

// P5: what is loaded goes on as the source does where the save answers true.
func TestSnapshot(t *testing.T) {
	t.Parallel()
	tried := 0
	sources(8000, 8700, func(seed int64, f []string, play func(input []byte, loaded int) []string) {
		saves := 0
		for _, x := range play(inputs(seed), 0) {
			if x == "saved" {
				saves++
			}
		}
		o := vm.Options{Input: inputs(seed)}
		for n := range min(saves, 3) {
			steps := stepsOf(t, f, o, n+1)
			text := scriptOf(t, script.Cmd{Kind: script.Input, Bytes: o.Input}, script.Cmd{Kind: script.Run, N: steps}, script.Cmd{Kind: script.Reload, N: 50000}, script.Cmd{Kind: script.Run, N: 100000})
			got := lines(t, f, text)
			got = got[1+slices.Index(got, "reloaded"):]
			if want := play(o.Input, n+1); !slices.Equal(got, want) {
				t.Fatalf("P5: seed %d, save %d, behind %d steps: %q; want %q\n%s", seed, n, steps, got, want, f[3])
			}
			tried++
		}
	})
	if tried < 150 {
		t.Errorf("the test tries too little: %d", tried)
	}
}

// stepsOf: how many steps there are till it has been saved so often.
func stepsOf(t *testing.T, files []string, o vm.Options, saves int) int {
	t.Helper()
	h, root, _ := image.Decode(imageOf(t, files, 60000), 60000)
	m, e := vm.New(h, root, o)
	if e != api.OK {
		t.Fatalf("vm.New: %d", e)
	}
	for m.Run(1) == vm.Running {
		left := saves
		for _, x := range m.Events() {
			if x.Kind == vm.Saved {
				left--
			}
		}
		if left == 0 {
			break
		}
	}
	return m.Steps()
}
