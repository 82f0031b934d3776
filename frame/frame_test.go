package frame

import (
	"math"
	"slices"
	"testing"

	"foundling/api"
	"foundling/boot"
	"foundling/gc"
	"foundling/head"
	"foundling/sound"
)

var numbers = []int{math.MinInt, -1 << 62, -7, -1, 0, 1, 2, 3, 4, 5, 6, 7, 8, 9, 15, 100, 1 << 20, 1 << 62, math.MaxInt}

// isContext: by what the chapter says of one.
func (w *world) isContext(p api.Word) bool {
	d, e := w.h.Head(p)
	m, f := w.h.Head(w.word(p, 3))
	return e == api.OK && f == api.OK && d.Class == w.classes["Context"] && d.Kind != head.Raw && d.Size > 6 && m.Class == w.classes["Method"]
}

// opened: does Open say what p is? Nothing changes.
func (w *world) opened(p api.Word) bool {
	w.t.Helper()
	before := w.h.Clone()
	f, e := Open(w.h, w.root, p)
	isContext := w.isContext(p)
	if isContext != (e == api.OK) || isContext != (f != nil) || !isContext && e != api.ErrKind {
		w.t.Errorf("P20.1: Open(%x): %v, %d; is it a context: %v", p, f != nil, e, isContext)
	}
	if isContext && f.Context() != p {
		w.t.Errorf("P20.1: Context() = %x, want %x", f.Context(), p)
	}
	w.same("Open", before)
	return isContext
}

func TestOpen(t *testing.T) {
	w := newWorld(t)
	method, inst := w.method("foo:bar:"), w.instance()
	yes := []api.Word{
		w.word(w.word(w.special(sound.Schedule), 0), 0), // the first one
		w.context(method, inst, w.nothing()),
		w.context(w.method("none"), num(3), w.nothing()),
	}
	yes = append(yes, w.inner(yes[1], yes[2], 1), w.inner(yes[1], yes[2], 30))
	for _, p := range yes {
		if !w.opened(p) {
			t.Errorf("%x should be a context", p)
		}
	}
	// The least one, and less.
	words := append(w.list(yes[1])[:6], num(0))
	for n := range 8 {
		size := min(n, 7)
		p := w.alloc("Context", head.Slots, words[:size]...)
		if w.opened(p) != (size == 7) {
			t.Errorf("P20.1: Open of a context of %d words", size)
		}
	}
	if !w.opened(w.alloc("Context", head.Fields, words...)) || w.opened(w.alloc("Array", head.Slots, words...)) || w.opened(w.alloc("Block", head.Slots, words...)) {
		t.Errorf("P20.1: Open goes by the class, and by words")
	}
	for _, n := range []int{0, 3, 6, 7, 8, 100} {
		p, _ := w.h.Alloc(w.classes["Context"], head.Raw, n, 0)
		if w.opened(p) {
			t.Errorf("P20.1: Open of bytes")
		}
	}
	count := 0
	for _, p := range w.objects() {
		if w.opened(p) {
			count++
		}
	}
	if count != len(yes)+2 {
		t.Errorf("P20.1: %d contexts", count)
	}
	for _, p := range []api.Word{0, 1, 2, 3, 5, yes[1] + 2, yes[1] | 1, 1 << 25, 1 << 40, 1 << 63, math.MaxUint64} {
		w.opened(p)
	}
}

// A context one word of which is of another kind: only its method counts.
func TestOpenOdd(t *testing.T) {
	w := newWorld(t)
	outer := w.context(w.method("foo:bar:"), w.instance(), w.nothing())
	for _, p := range []api.Word{outer, w.inner(outer, outer, 3)} {
		odd := w.odd()
		for _, name := range keys(odd) {
			for i := range len(w.list(p)) {
				old := w.word(p, i)
				w.h.Put(p, i, odd[name])
				if w.opened(p) != (i != boot.Method) {
					t.Errorf("P20.1: Open of a context whose word %d is %s", i, name)
				}
				w.h.Put(p, i, old)
			}
		}
		for _, other := range w.objects() { // of whatever class
			old := w.word(p, boot.Method)
			w.h.Put(p, boot.Method, other)
			d, _ := w.h.Head(other)
			if w.opened(p) != (d.Class == w.classes["Method"]) {
				t.Errorf("P20.1: Open of a context whose method is %x", other)
			}
			w.h.Put(p, boot.Method, old)
		}
	}
}

func TestWord(t *testing.T) {
	w := newWorld(t)
	outer := w.context(w.method("foo:bar:"), w.instance(), w.nothing())
	p := w.inner(outer, outer, 3)
	for _, p := range []api.Word{outer, p} {
		for i, x := range w.list(p) {
			if i < 6 && w.open(p).Word(i) != x {
				t.Errorf("P20.1: Word(%d) = %x, want %x", i, w.open(p).Word(i), x)
			}
		}
		for _, i := range numbers {
			if i >= 0 && i < 6 {
				continue
			}
			before := w.h.Clone()
			if x := w.open(p).Word(i); x != 0 {
				t.Errorf("P20.1: Word(%d) = %x", i, x)
			}
			for _, x := range []api.Word{0, 1, w.root} {
				if e := w.open(p).SetWord(i, x); e != api.ErrArg {
					t.Errorf("P20.1: SetWord(%d): %d", i, e)
				}
			}
			w.same("SetWord", before)
		}
		for i := range 6 {
			odd := w.odd()
			for _, name := range keys(odd) {
				f, g := w.open(p), w.open(p)
				before := w.h.Clone()
				if e := f.SetWord(i, odd[name]); e != api.OK {
					t.Errorf("P20.1: SetWord(%d): %d", i, e)
				}
				w.changes("SetWord", before, p, map[int]api.Word{i: odd[name]})
				if f.Word(i) != odd[name] || g.Word(i) != odd[name] || f.Context() != p {
					t.Errorf("P20.1: Word(%d) behind SetWord: %x, %x", i, f.Word(i), g.Word(i))
				}
				w.h = before
			}
		}
	}
}

func TestHome(t *testing.T) {
	w := newWorld(t)
	outer := w.context(w.method("foo:bar:"), w.instance(), w.nothing())
	p := w.inner(outer, outer, 3)
	second := w.inner(p, p, 3) // no layer makes one whose home is a block's
	before := w.h.Clone()
	for context, home := range map[api.Word]api.Word{outer: outer, p: outer, second: p} {
		if got := w.open(context).Home(); got == nil || got.Context() != home {
			t.Errorf("P20.1: Home of %x", context)
		}
	}
	if got := w.open(second).Home().Home().Home(); got.Context() != outer {
		t.Errorf("P20.1: Home, again and again: %x", got.Context())
	}
	w.same("Home", before)
	// What is done by it is done in its context.
	f := w.open(p).Home()
	f.Push(num(9))
	slots, _ := sizes(w.word(w.method("foo:bar:"), 0))
	w.changes("Push in the home", before, outer, map[int]api.Word{boot.Top: num(1), 6 + slots: num(9)})
	// A home that is none.
	odd := w.odd()
	delete(odd, "nil")
	odd["a block"] = w.alloc("Block", head.Fields, outer, num(0), num(0))
	odd["a small context"] = w.alloc("Context", head.Slots, w.list(outer)[:6]...)
	for _, name := range keys(odd) {
		w.h.Put(p, boot.Home, odd[name])
		before := w.h.Clone()
		if got := w.open(p).Home(); got != nil {
			t.Errorf("P20.1: Home where it is %s: %x", name, got.Context())
		}
		w.same("Home", before)
	}
}

func TestOverLeave(t *testing.T) {
	w := newWorld(t)
	outer := w.context(w.method("foo:bar:"), w.instance(), w.nothing())
	for _, p := range []api.Word{outer, w.inner(outer, outer, 3)} {
		f, g := w.open(p), w.open(p)
		f.Push(num(4))
		odd := w.odd()
		for _, name := range keys(odd) {
			f.SetWord(boot.Pc, odd[name])
			before := w.h.Clone()
			if f.Over() != (name == "nil") {
				t.Errorf("P20.1: Over where the Pc is %s: %v", name, f.Over())
			}
			w.same("Over", before)
			f.Leave()
			w.changes("Leave", before, p, map[int]api.Word{boot.Pc: w.nothing()})
			if !f.Over() || !g.Over() || !w.open(p).Over() {
				t.Errorf("P20.1: Leave, and it isn't left")
			}
			f.Leave()
			w.changes("Leave, once more", before, p, map[int]api.Word{boot.Pc: w.nothing()})
		}
		f.SetWord(boot.Pc, num(0))
		if f.Over() {
			t.Errorf("P20.1: Over, and it goes on")
		}
	}
}

// Memory whose root has no nil: nothing is left, nothing has been.
func TestLeaveWithoutNil(t *testing.T) {
	w := newWorld(t)
	f := w.open(w.context(w.method("foo:bar:"), w.instance(), w.nothing()))
	w.h.Put(w.root, sound.Nil, 0)
	before := w.h.Clone()
	f.Leave()
	w.same("Leave", before)
	f.SetWord(boot.Pc, 0)
	if f.Over() {
		t.Errorf("P20.1: Over without a nil")
	}
}

// all: each call of a frame, with an argument that may be wrong; answers what each told.
func all(f *Frame, n int, x api.Word) map[string]api.Errno {
	out := map[string]api.Errno{}
	f.Context()
	f.Word(n)
	f.Home()
	f.Depth()
	f.Over()
	_, out["Peek"] = f.Peek(n)
	_, out["Temp"] = f.Temp(n)
	_, out["Field"] = f.Field(n)
	_, out["Literal"] = f.Literal(n)
	_, _, out["Next"] = f.Next()
	_, out["Block"] = f.Block(n, n)
	out["SetTemp"] = f.SetTemp(n, x)
	out["SetField"] = f.SetField(n, x)
	out["Go"] = f.Go(n)
	out["Drop"] = f.Drop(n)
	out["Push"] = f.Push(x)
	_, out["Pop"] = f.Pop()
	out["SetWord"] = f.SetWord(n, x)
	return out
}

// A nil Frame stands beside an error; a zero one is like it.
func TestNoFrame(t *testing.T) {
	for _, f := range []*Frame{nil, {}} {
		for _, n := range numbers {
			for name, e := range all(f, n, 7) {
				if e == api.OK {
					t.Errorf("P20.5: %s(%d) of no frame: %d", name, n, e)
				}
			}
			if f.Context() != 0 || f.Word(n) != 0 || f.Depth() != 0 || f.Over() || f.Home().Context() != 0 {
				t.Errorf("P20.5: what isn't there is something")
			}
			f.Leave()
		}
	}
}

// told: what calls answer of a context, if a word of it is of another kind; nothing has changed then.
func (w *world) told(what string, p api.Word, calls string, want api.Errno) {
	w.t.Helper()
	before := w.h.Clone()
	f := w.open(p)
	for _, call := range []struct {
		name string
		do   func() (api.Word, api.Errno)
	}{
		{"Push", func() (api.Word, api.Errno) { return 0, f.Push(7) }},
		{"Pop", func() (api.Word, api.Errno) { return f.Pop() }},
		{"Peek", func() (api.Word, api.Errno) { return f.Peek(0) }},
		{"Drop", func() (api.Word, api.Errno) { return 0, f.Drop(1) }},
		{"DropNone", func() (api.Word, api.Errno) { return 0, f.Drop(0) }},
		{"Temp", func() (api.Word, api.Errno) { return f.Temp(0) }},
		{"SetTemp", func() (api.Word, api.Errno) { return 0, f.SetTemp(0, 7) }},
		{"Field", func() (api.Word, api.Errno) { return f.Field(0) }},
		{"SetField", func() (api.Word, api.Errno) { return 0, f.SetField(0, 7) }},
		{"Literal", func() (api.Word, api.Errno) { return f.Literal(0) }},
		{"Next", func() (api.Word, api.Errno) {
			i, behind, e := f.Next()
			return api.Word(i.Op + i.A + i.B + behind), e
		}},
		{"Go", func() (api.Word, api.Errno) { return 0, f.Go(0) }},
		{"Block", func() (api.Word, api.Errno) { return f.Block(0, 0) }},
	} {
		asked := slices.Contains(words(calls), call.name)
		x, e := call.do()
		if asked && (e != want || x != 0) || !asked && e != api.OK {
			w.t.Errorf("P20.5: %s: %s = %x, %d; want %d: %v", what, call.name, x, e, want, asked)
		}
		if asked {
			w.same(what+": "+call.name, before)
		}
		w.h = before.Clone()
		f = w.open(p)
	}
}

func words(s string) []string {
	var out []string
	word := ""
	for _, r := range s + " " {
		if r != ' ' {
			word += string(r)
		} else if word != "" {
			out = append(out, word)
			word = ""
		}
	}
	return out
}

const onStack = "Push Pop Peek Drop DropNone "

// A word of another kind: just the calls that ask for it tell so.
func TestKinds(t *testing.T) {
	w := newWorld(t)
	outer := w.context(w.method("foo:bar:"), w.instance(), w.nothing())
	inner := w.inner(outer, outer, 3)
	w.open(outer).Push(num(1))
	w.open(inner).Push(num(1))
	odd := w.odd()
	start := w.h.Clone()
	w.told("all is right", outer, "", 0)
	w.told("all is right", inner, "", 0)
	set := func(p api.Word, i int, x api.Word) {
		w.h = start.Clone()
		w.h.Put(p, i, x)
	}
	for _, name := range keys(odd) {
		x := odd[name]
		for _, p := range []api.Word{outer, inner} {
			set(p, boot.Sender, x)
			w.told("the Sender is "+name, p, "", 0)
			set(p, boot.Pc, x)
			switch {
			case !isNumber(x):
				w.told("the Pc is "+name, p, "Next", api.ErrKind)
			case x != num(5):
				w.told("the Pc is "+name, p, "Next", api.ErrArg)
			}
			if x != num(5) {
				set(p, boot.Top, x)
				w.told("the Top is "+name, p, onStack, api.ErrKind)
				if n := w.open(p).Depth(); n != 0 {
					t.Errorf("P20.1: Depth where the Top is %s: %d", name, n)
				}
			}
			set(p, boot.Receiver, x)
			switch name {
			case "an Array", "like a method", "a class", "the root":
				w.told("the Receiver is "+name, p, "", 0)
			case "nil": // it has no words
				w.told("the Receiver is "+name, p, "Field SetField", api.ErrNone)
			default:
				w.told("the Receiver is "+name, p, "Field SetField", api.ErrKind)
			}
		}
		if name != "nil" {
			set(inner, boot.Home, x)
			w.told("the Home is "+name, inner, "Temp SetTemp Block", api.ErrKind)
			set(outer, boot.Home, x) // it is a block's context then, whose stack stands behind its first words
			w.told("the Home is "+name, outer, "Temp SetTemp Block", api.ErrKind)
		}
		set(outer, boot.Method, x)
		w.told("the home's Method is "+name, inner, "Temp SetTemp Block", api.ErrKind)
		for p, calls := range map[api.Word]string{outer: onStack + "Temp SetTemp Literal Next Go Block", inner: "Literal Next Go"} {
			w.h = start.Clone()
			f := w.open(p)
			f.SetWord(boot.Method, x)
			before := w.h.Clone()
			if f.Depth() != map[api.Word]int{outer: 0, inner: 1}[p] {
				t.Errorf("P20.1: Depth where the Method is %s: %d", name, f.Depth())
			}
			for call, e := range map[string]api.Errno{
				"Push": f.Push(7), "Pop": second(f.Pop()), "Peek": second(f.Peek(0)), "Drop": f.Drop(1), "DropNone": f.Drop(0), "Temp": second(f.Temp(0)), "SetTemp": f.SetTemp(0, w.nothing()),
				"Literal": second(f.Literal(0)), "Next": third(f), "Go": f.Go(0), "Block": second(f.Block(0, 0)),
			} {
				if slices.Contains(words(calls), call) && e != api.ErrKind {
					t.Errorf("P20.5: %s where the Method is %s: %d", call, name, e)
				}
			}
			if p == outer {
				w.same("calls where the Method is "+name, before)
			}
		}
	}
}

func second(_ api.Word, e api.Errno) api.Errno { return e }

func third(f *Frame) api.Errno {
	_, _, e := f.Next()
	return e
}

// A method whose words are of another kind.
func TestMethodKinds(t *testing.T) {
	w := newWorld(t)
	method := w.like(1, 2, []api.Word{num(1)}, 18, 18, 18, 18)
	outer := w.context(method, w.instance(), w.nothing())
	inner := w.inner(outer, outer, 3)
	w.open(outer).Push(num(1))
	w.open(inner).Push(num(1))
	odd := w.odd()
	start := w.h.Clone()
	for _, name := range keys(odd) {
		w.h = start.Clone()
		w.h.Put(method, 0, odd[name])
		if !isNumber(odd[name]) {
			w.told("the header is "+name, outer, onStack+"Temp SetTemp", api.ErrKind)
			w.told("the header is "+name, inner, "Temp SetTemp", api.ErrKind)
		}
		for i, calls := range map[int]string{1: "Literal", 2: "Next Go"} {
			w.h = start.Clone()
			w.h.Put(method, i, odd[name])
			switch {
			case i == 2 && (name == "a String" || name == "a symbol"), i == 1 && slices.Contains([]string{"an Array", "like a method", "a class", "the root"}, name):
			case i == 1 && name == "nil":
				w.told("the literals are "+name, outer, calls, api.ErrNone)
			default:
				w.told("the method's word is "+name, outer, calls, api.ErrKind)
				w.told("the method's word is "+name, inner, map[int]string{1: "Literal", 2: "Next Go"}[i], api.ErrKind)
			}
		}
	}
}

// The least error of two that apply.
func TestLeast(t *testing.T) {
	w := newWorld(t)
	outer := w.context(w.method("foo:bar:"), w.instance(), w.nothing())
	f := w.open(outer)
	for i := range 6 {
		f.SetWord(i, w.root+2)
	}
	before := w.h.Clone()
	for _, n := range []int{-1, -2, math.MinInt} {
		if _, e := f.Peek(n); e != api.ErrNone {
			t.Errorf("P20.1: Peek(%d): %d", n, e)
		}
		if e := f.Drop(n); e != api.ErrArg {
			t.Errorf("P20.1: Drop(%d): %d", n, e)
		}
		if _, e := f.Temp(n); e != api.ErrNone {
			t.Errorf("P20.1: Temp(%d): %d", n, e)
		}
		if e := f.SetTemp(n, 7); e != api.ErrNone {
			t.Errorf("P20.1: SetTemp(%d): %d", n, e)
		}
		if _, e := f.Literal(n); e != api.ErrNone {
			t.Errorf("P20.2: Literal(%d): %d", n, e)
		}
		if e := f.Go(n); e != api.ErrArg {
			t.Errorf("P20.2: Go(%d): %d", n, e)
		}
		if _, e := f.Block(n, 0); e != api.ErrArg {
			t.Errorf("P20.3: Block(%d, 0): %d", n, e)
		}
		if _, e := f.Block(0, n); e != api.ErrArg {
			t.Errorf("P20.3: Block(0, %d): %d", n, e)
		}
	}
	w.same("calls that are wrong", before)
}

// A frame whose context isn't there any more: nothing stands at its place, or another object.
func TestGone(t *testing.T) {
	for _, kind := range []int{head.Fields, head.Slots, head.Raw} {
		for size := -1; size < 20; size++ {
			for _, n := range numbers {
				w := newWorld(t)
				p := w.context(w.method("foo:bar:"), num(3), w.nothing())
				f := w.open(p)
				f.Push(num(1))
				if _, e := gc.Collect(w.h, w.root); e != api.OK || w.h.Has(p) {
					t.Fatalf("gc.Collect: %d", e)
				}
				if size >= 0 {
					if other, _ := w.h.Alloc(w.classes["Array"], kind, size, w.nothing()); other != p {
						t.Fatalf("%x stands at the place of %x", other, p)
					}
				}
				before := w.h.Clone()
				for name, e := range all(f, n, num(3)) {
					if e == api.OK && name != "SetWord" {
						t.Errorf("P20.5: %s(%d) of a context that isn't there: %d", name, n, e)
					}
				}
				if size < 0 || kind == head.Raw {
					f.Leave()
					w.same("calls of a context that isn't there", before)
				}
			}
		}
	}
}
