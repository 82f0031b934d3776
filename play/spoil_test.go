package play

import (
	"fmt"
	"math/rand"
	"slices"
	"strings"
	"testing"

	"foundling/api"
	"foundling/boot"
	"foundling/find"
	"foundling/heap"
	"foundling/image"
	"foundling/intern"
	"foundling/pack"
	"foundling/script"
	"foundling/sound"
)

// spoils: the commands that make one image of another one as long.
func spoils(from, to []byte) []script.Cmd {
	var out []script.Cmd
	for i := range from {
		if from[i] != to[i] {
			out = append(out, script.Cmd{Kind: script.Spoil, At: i, N: int(to[i])})
		}
	}
	return out
}

// summed: bytes with the right checksum at their end.
func summed(b []byte) []byte {
	return pack.Put(b[:len(b)-4], uint64(pack.Crc(b[:len(b)-4])), 4)
}

// changed: the commands by which the image of files becomes that of the memory that change makes of it.
func changed(t testing.TB, files []string, change func(h *heap.Heap, root api.Word)) []script.Cmd {
	t.Helper()
	b := imageOf(t, files, 60000)
	h, root, e := image.Decode(b, 60000)
	if e != api.OK {
		t.Fatalf("image.Decode: %d", e)
	}
	change(h, root)
	to, e := image.Encode(h, root)
	if e != api.OK || len(to) != len(b) {
		t.Fatalf("image.Encode: %d", e)
	}
	return spoils(b, to)
}

// method: of a class, by their names.
func method(h *heap.Heap, root api.Word, class, name string) api.Word {
	c, _ := intern.Global(h, root, class)
	s, _ := intern.Find(h, root, name)
	m, _, _ := find.Lookup(h, root, c, s)
	return m
}

// word: of an object.
func word(h *heap.Heap, w api.Word, i int) api.Word {
	x, _ := h.Get(w, i)
	return x
}

// loadError: by chapter 7, of an image that one byte was changed in.
func loadError(at int, isMore bool) int {
	switch {
	case at < 8:
		return 3
	case at < 16 && isMore:
		return 4
	case at < 16:
		return 2
	}
	return 5
}

// P27.1, step 4, and P6: each byte of the image, as another one.
func TestSpoilEachByte(t *testing.T) {
	t.Parallel()
	f := []string{kernel(), start("nil")}
	b := imageOf(t, f, 60000)
	boot := bootLine(t, f)
	for at := range b {
		values := []int{int(b[at] ^ 1), int(^b[at]), (int(b[at]) + 1) % 256, 0, 255}
		if at > 40 && at < len(b)-8 {
			values = values[at%5:][:1]
		}
		for _, n := range values {
			want := []string{boot, "ran done 1"}
			if byte(n) != b[at] {
				want = []string{boot, fmt.Sprintf("load %d", loadError(at, byte(n) > b[at]))}
			}
			for _, times := range []int{0, 1, 1000} {
				text := fmt.Sprintf("run 99\nspoil %d %d", at+times*len(b), n)
				if got, events := Run(f, text); !slices.Equal(got, want) || events != nil {
					t.Fatalf("P27.1: byte %d of %d (%d) becomes %d: %q; want %q", at, len(b), b[at], n, got, want)
				}
				if at > 40 {
					break
				}
			}
		}
	}
}

// P27.1: several Spoils, at one byte or at many, in the text's order, wherever they stand.
func TestSpoilSeveral(t *testing.T) {
	f := files("'hi' out")
	b := imageOf(t, f, 60000)
	n := len(b)
	done := `out "hi" | ran done 2`
	for _, x := range []struct{ text, want string }{
		{"run 99/spoil 0 70", done},
		{fmt.Sprintf("run 99/spoil %d %d", n-1, b[n-1]), done},
		{fmt.Sprintf("run 99/spoil %d 70", n), done},
		{fmt.Sprintf("run 99/spoil %d 78", 3*n+1), done},
		{fmt.Sprintf("run 99/spoil %d 70", n+1), "load 3"},
		{fmt.Sprintf("run 99/spoil %d 71", n), "load 3"},
		{"spoil 0 1/spoil 0 70/run 99", done},
		{"spoil 0 1/run 99/spoil 0 70", done},
		{fmt.Sprintf("spoil 0 1/run 99/image/reload 3/spoil %d 70/run 1", n), done + " | image 6 | reload 6 | ran done 2"},
		{"spoil 0 70/spoil 0 1/run 99", "load 3"},
		{"spoil 0 70/spoil 0 70/spoil 0 1/spoil 0 70/run 99", done},
		{"spoil 0 70/run 99/image/spoil 0 1", "load 3"},
		{"spoil 100 1/spoil 9 255", "load 4"},
		{"spoil 9 255/spoil 7 1", "load 3"},
		{"spoil 9 0/spoil 8 0", "load 2"},
		{fmt.Sprintf("spoil %d 255/spoil %d 255/spoil %d 255/spoil %d 255", 60, 61, n-1, n-2), "load 5"},
	} {
		expect(t, "P27.1: several spoiled", f, x.text, x.want)
	}
}

// P27.1: all is spoiled as it is said: with a right checksum it is another image.
func TestSpoilWithSum(t *testing.T) {
	f := files("'hi' out. self foo")
	to := func(class, name string, at int, b ...byte) []script.Cmd {
		return changed(t, f, func(h *heap.Heap, root api.Word) {
			code := word(h, method(h, root, class, name), 2)
			for i, x := range b {
				h.PutByte(code, at+i, x)
			}
		})
	}
	literal := changed(t, f, func(h *heap.Heap, root api.Word) {
		h.PutByte(word(h, word(h, method(h, root, "UndefinedObject", "start"), 1), 0), 1, 'o')
	})
	first := changed(t, f, func(h *heap.Heap, root api.Word) {
		p := word(h, word(h, root, sound.Schedule), boot.Active)
		h.PutByte(word(h, word(h, word(h, p, 0), boot.Method), 2), 0, 255)
	})
	b := imageOf(t, f, 60000)
	letters := slices.Clone(b)
	copy(letters, "FNDX")
	unsound := changed(t, f, func(h *heap.Heap, root api.Word) { h.SetMark(root, true) })
	loose := changed(t, f, func(h *heap.Heap, root api.Word) { h.Put(root, sound.Spare, 2*60001) })
	form := slices.Clone(b)
	form[32+13] = 200 // the first head's Kind
	for _, x := range []struct {
		list []script.Cmd
		want string
	}{
		{literal, `out "ho" | fault "doesNotUnderstand: foo" | ran done 3 | ran done 3 | ran done 3`},
		{to("UndefinedObject", "start", 0, 99), "ran broken 1 | ran broken 1 | ran broken 1"},
		{to("UndefinedObject", "start", 5, 99), `out "hi" | ran broken 2 | ran broken 2 | ran broken 2`},
		{to("UndefinedObject", "start", 6, 12, 250), `out "hi" | ran broken 2 | ran broken 2 | ran broken 2`},
		{first, "ran broken 0 | ran broken 0 | ran broken 0"},
		{spoils(b, summed(letters)), "load 3"},
		{spoils(b, summed(form)), "load 3"},
		{loose, "load 13"},
		{unsound, "load 13"},
	} {
		text := scriptOf(t, slices.Concat(x.list, commandsOf(t, "run 99\nrun 1\nrun 0"))...)
		expect(t, "P27.1: spoiled, and summed", f, text, x.want)
		slices.Reverse(x.list)
		text = scriptOf(t, slices.Concat(commandsOf(t, "run 99\nrun 1\nrun 0"), x.list)...)
		expect(t, "P27.1: spoiled, and summed, behind a run", f, text, x.want)
		if len(x.list) > 1 {
			text = scriptOf(t, slices.Concat(commandsOf(t, "run 99\nrun 1\nrun 0"), x.list[:len(x.list)-1])...)
			want := "load 5"
			if x.list[len(x.list)-1].At < 8 {
				want = "load 3"
			}
			if x.want == "load 3" {
				want = "load 5"
			}
			expect(t, "P27.1: spoiled, and but one byte of it", f, text, want)
		}
	}
}

// P27.1: behind a snapshot a machine that is broken may be loaded again.
func TestReloadBroken(t *testing.T) {
	f := files("self save ifTrue: ['again' out. 'end' out. ^1]. 'first' out. self foo")
	list := changed(t, f, func(h *heap.Heap, root api.Word) {
		code := word(h, method(h, root, "UndefinedObject", "start"), 2)
		text, _ := h.Bytes(code)
		for i := len(text) - 1; i > len(text)-8; i-- {
			h.PutByte(code, i, 77)
		}
	})
	text := scriptOf(t, append(list, commandsOf(t, "run 99\nrun 9\nreload 9000\nrun 99\nreload 9000\nrun 0\nrun 1")...)...)
	got := lines(t, f, text)
	want := `saved | out "first" | ran broken 3 | ran broken 3 | reloaded | out "again" | out "end" | ran done 5 | reloaded | ran running 5 | ran running 5`
	if strings.Join(got[1:], " | ") != want {
		t.Errorf("P27.1: reload behind broken: %q; want %s", got, want)
	}
}

// P6, P27.4: images that are spoilt in many ways and have a right checksum are refused, or run to an end.
func TestSpoilByChance(t *testing.T) {
	t.Parallel()
	told := map[string]int{}
	sources := []string{
		"self save ifTrue: ['again' out] ifFalse: [['x' out. self yield] process resume]. self foo: [:x | ^x] value: 3. self yield. 'end' out! doesNotUnderstand: x x selector out",
		"| s | s := Semaphore new setup. s timer. [s wait. 'tick' out] process resume. self save. self yield. (Array new: 5) at: 3 put: 4. self gc. self perform: #start all: #()",
	}
	for seed := range 1200 {
		r := rand.New(rand.NewSource(int64(seed)))
		f := files(sources[seed%2])
		b := imageOf(t, f, 60000)
		to := slices.Clone(b)
		for range 1 + r.Intn(1+r.Intn(12)) {
			spoilOne(r, to)
		}
		text := scriptOf(t, append(spoils(b, summed(to)), commandsOf(t, "ticks 5 9 30\nrun 200\nimage\nreload 5000\nrun 100\nreload 9000\nrun 200")...)...)
		got := lines(t, f, text)
		if want := modelLines(f, text); !slices.Equal(got, want) {
			t.Fatalf("P27.1: seed %d: %q; want %q", seed, got, want)
		}
		for _, x := range got[1:] {
			words := strings.Fields(x)
			told[words[0]+words[min(1, len(words)-1)]]++
		}
	}
	for _, what := range []string{"load3", "load13", "ranbroken", "randone", "ranrunning", "reloadedreloaded", "reload6"} {
		if told[what] < 3 {
			t.Errorf("the test tries too little: %s %d times: %v", what, told[what], told)
		}
	}
}

// spoilOne: a byte, or a word, that becomes another one, or one that stands elsewhere.
func spoilOne(r *rand.Rand, b []byte) {
	at := r.Intn(len(b) - 4)
	switch r.Intn(4) {
	case 0:
		b[at] = byte(r.Intn(256))
	case 1:
		b[at] += byte(r.Intn(5) - 2)
	default:
		words := (len(b) - 36) / 8
		i, j := 32+8*r.Intn(words), 32+8*r.Intn(words)
		copy(b[i:i+8], b[j:j+8])
	}
}
