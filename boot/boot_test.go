package boot

import (
	"bytes"
	"math"
	"math/rand"
	"reflect"
	"slices"
	"strconv"
	"strings"
	"testing"

	"foundling/api"
	"foundling/gen"
	"foundling/head"
	"foundling/heap"
	"foundling/image"
	"foundling/mark"
	"foundling/scope"
	"foundling/sema"
	"foundling/small"
	"foundling/sound"
)

// built: the memory of a program, which is as it has to be.
func built(t *testing.T, p sema.Program) (*heap.Heap, api.Word) {
	t.Helper()
	cells := size(p)
	h, root, e := Build(p, cells)
	if e != api.OK {
		t.Fatalf("P18.3: Build with the %d cells that it takes: %d", cells, e)
	}
	if h.Cells() != cells || h.Free() != 0 {
		t.Errorf("P18.3: of %d cells %d are left", h.Cells(), h.Free())
	}
	if n := sound.Check(h, root); n != 0 {
		t.Errorf("P18.2: the memory breaks rule %d", n)
	}
	if got, want := plain(read(t, h, root)), plain(p); !reflect.DeepEqual(got, want) {
		t.Errorf("P18.1: in memory is\n%+v, want\n%+v", got, want)
	}
	checkSymbols(t, h, root, p)
	if _, used, e := mark.Reach(h, root); e != api.OK || used+2 != h.Used() {
		t.Errorf("P18.1: %d cells are reached, %d used; %d", used, h.Used(), e)
	}
	if h, root, e := Build(p, cells-1); h != nil || root != 0 || e != api.ErrFull {
		t.Errorf("P18.3: Build with one cell less: %v, %x, %d", h, root, e)
	}
	return h, root
}

func checkSymbols(t *testing.T, h *heap.Heap, root api.Word, p sema.Program) {
	t.Helper()
	list, _ := h.Get(root, 4)
	d, _ := h.Head(list)
	var got []string
	for i := range d.Size {
		w, _ := h.Get(list, i)
		b, _ := h.Bytes(w)
		got = append(got, string(b))
	}
	if want := named(p); !slices.Equal(got, want) {
		t.Errorf("P18.1: the symbols are %q, want %q", got, want)
	}
}

// P18.1, P18.2, P18.3

func TestKernelAlone(t *testing.T) {
	p := program(t)
	built(t, p)
	// With fewer cells, any of them, there is no memory.
	cells := size(p)
	for n := 16; n < cells; n++ {
		if h, root, e := Build(p, n); h != nil || root != 0 || e != api.ErrFull {
			t.Fatalf("P18.3: Build with %d cells, of %d: %v, %x, %d", n, cells, h, root, e)
		}
	}
	h, root := built(t, p)
	for _, n := range []int{cells, cells + 1, 60000, api.MaxHeap} {
		more, moreRoot, e := Build(p, n)
		if e != api.OK || more.Cells() != n || more.Used() != cells || moreRoot != root || !slices.Equal(more.Words(), h.Words()) {
			t.Errorf("P18.3: Build with %d cells: %d", n, e)
		}
	}
	for _, n := range []int{math.MinInt, -1, 0, 1, 15, api.MaxHeap + 1, math.MaxInt} {
		if h, root, e := Build(p, n); h != nil || root != 0 || e != api.ErrSize {
			t.Errorf("P18.3: Build with %d cells: %v, %x, %d", n, h, root, e)
		}
	}
}

func TestPrograms(t *testing.T) {
	for _, text := range []string{
		definition("A", "Object", "a b") + definition("B", "A", "") + definition("Z", "B", "c a1 start") + definition("S", "String", "") + definition("T", "S", "") + definition("L", "Array", "") + definition("P", "Process", "p") + definition("M", "Message", "") + definition("Q", "Semaphore", "q"),
		"UndefinedObject methods! start ^self! !",
		"Object methods! foo ^1! at: x put: y ^x! + x ^self! ! Object class methods! new <primitive: 23>! new: n <primitive: 24>! ! String class methods! new ^super new! !",
		"Object methods! a! b! c! ab! a: x! B! a1! - x! -> x! !",
		"Object methods! foo ^'text'! bar ^'text'! baz ^#(1 'text' #(a b #c at:put: + nil true false 'text' ()) -5)! all ^#(#only #within #(#lists) 'list')! ! ",
		"Object methods! foo ^#(a b) , #(a b) , 'x' , 'x' , #a , #'two words' , 300 , 4611686018427387903 , Object , UndefinedObject! !",
		"Object methods! a: a b: b c: c d: d e: e f: f g: g h: h i: i j: j k: k l: l <primitive: 999> | m n | ^[:x | | y | y := x] value: l! !",
		"Object methods! long ^'" + strings.Repeat("x", api.MaxText) + "'! !",
		"Object methods! far " + strings.Repeat("self foo. ", 2700) + "! !",
		"Object methods! deep ^" + strings.Repeat("#(", 38) + "a" + strings.Repeat(")", 38) + "! !",
		"Object methods! none! list ^#()! text ^''! !",
		definition("start", "Object", "start") + "start methods! start ^#start! ! Object methods! doesNotUnderstand: m ^m! !",
	} {
		built(t, program(t, text))
	}
}

// As great as methods can be: 60 slots, a stack of 200, 200 literals, and as many classes and fields as may be.
func TestGreatest(t *testing.T) {
	var slots, literals, fields []string
	for i := range 60 {
		slots = append(slots, "v"+strconv.Itoa(i))
		fields = append(fields, "f"+strconv.Itoa(i))
	}
	for i := range 199 {
		literals = append(literals, strconv.Itoa(1000+i))
	}
	stack := "1 a: 1 b: 2 c: 3 d: 4 e: 5 f: 6 g: 7"
	for range 16 {
		stack = "1 a: 1 b: 2 c: 3 d: 4 e: 5 f: 6 g: 7 h: 8 i: 9 j: 10 k: 11 l: (" + stack + ")"
	}
	text := "Object methods! slots | " + strings.Join(slots, " ") + " | ^1! many " + strings.Join(literals, ". ") + ". ^'x'! stack ^" + stack + "! !"
	classes := definition("Wide", "Object", strings.Join(fields, " "))
	for i := range 183 {
		classes += definition("C"+strconv.Itoa(i), "Object", "")
	}
	p := program(t, text, classes)
	if len(p.Classes) != 200 {
		t.Fatalf("%d classes", len(p.Classes))
	}
	built(t, p)
	most := gen.Out{}
	for _, c := range p.Classes {
		for _, o := range c.Methods {
			most.Slots, most.Stack = max(most.Slots, o.Slots), max(most.Stack, o.Stack)
			most.Lits = append(most.Lits, o.Lits...)
		}
	}
	if most.Slots != 60 || most.Stack != api.MaxStack || len(most.Lits) < 200 {
		t.Errorf("the test tries too little: %d, %d, %d", most.Slots, most.Stack, len(most.Lits))
	}
}

func TestChance(t *testing.T) {
	literals := 0
	for seed := range int64(300) {
		m := maker{rand.New(rand.NewSource(seed))}
		p, problems := sema.Build(m.files(m.parts(), 3)...)
		if len(problems) > 0 {
			t.Fatalf("seed %d: %v", seed, problems)
		}
		built(t, p)
		for _, c := range p.Classes {
			for _, o := range c.Methods {
				literals += len(o.Lits)
			}
		}
	}
	if literals < 2000 {
		t.Errorf("the test tries too little: %d literals", literals)
	}
}

// P18.5

func TestBytes(t *testing.T) {
	for seed := range int64(100) {
		m := maker{rand.New(rand.NewSource(seed))}
		parts := m.parts()
		var want []byte
		for range 5 {
			p, problems := sema.Build(m.files(parts, 64)...)
			if len(problems) > 0 {
				t.Fatalf("seed %d: %v", seed, problems)
			}
			h, root, e := Build(p, size(p)+m.Intn(1000))
			got, f := image.Encode(h, root)
			if e != api.OK || f != api.OK {
				t.Fatalf("P18.5: seed %d: %d, %d", seed, e, f)
			}
			if want == nil {
				want = got
			}
			if !bytes.Equal(got, want) {
				t.Fatalf("P18.5: seed %d: in another order it is another image", seed)
			}
		}
	}
	// What differs is another image.
	one, root, _ := Build(program(t, "Object methods! a ^1! !"), 9999)
	two, other, _ := Build(program(t, "Object methods! a ^2! !"), 9999)
	if root == other && one.Same(two) {
		t.Errorf("P18.5: other methods are the same image")
	}
}

// P18.4

func TestNumbers(t *testing.T) {
	for i, n := range []int{Sender, Pc, Top, Method, Receiver, Home, First} {
		if n != i {
			t.Errorf("P18.4: a context's word %d is %d", i, n)
		}
	}
	if Active != 0 || Lists != 1 || Timer != 11 || Slots != 12 || Start != "start" {
		t.Errorf("P18.4: the schedule's words are %d, %d, %d, of %d; %q", Active, Lists, Timer, Slots, Start)
	}
}

func TestHeader(t *testing.T) {
	if n := Header(gen.Out{Args: 1, Slots: 3, Stack: 2}); n != 1+48+2048 {
		t.Errorf("P18.4: the chapter's example is %d", n)
	}
	seen := map[int64]gen.Out{}
	for _, args := range []int{0, 1, 11, 12} {
		for _, slots := range []int{0, 1, 31, 59, 60} {
			for _, stack := range []int{0, 1, 127, 128, 199, 200} {
				for _, prim := range []int{0, 1, 60, 511, 512, 998, 999} {
					o := gen.Out{Args: args, Slots: slots, Stack: stack, Prim: prim}
					n := Header(gen.Out{Name: "foo:", Args: args, Slots: slots, Stack: stack, Prim: prim, Code: []byte{1, 2}})
					if n != int64(args+16*slots+1024*stack+262144*prim) {
						t.Errorf("P18.4: Header(%+v) = %d", o, n)
					}
					if before, isThere := seen[n]; isThere {
						t.Errorf("P18.4: %+v and %+v have one header", before, o)
					}
					seen[n] = o
					parts(t, n, args, slots, stack, prim)
					for _, above := range []int64{1 << 28, 1 << 29, 1<<62 - 1<<28, math.MaxInt64 &^ (1<<28 - 1)} {
						parts(t, n|above, args, slots, stack, prim)
					}
					parts(t, -1-n, 0, 0, 0, 0)
					parts(t, math.MinInt64+n, 0, 0, 0, 0)
				}
			}
		}
	}
	parts(t, 1<<28-1, 15, 63, 255, 1023)
	parts(t, 1<<28, 0, 0, 0, 0)
	parts(t, math.MaxInt64, 15, 63, 255, 1023)
	parts(t, api.MaxInt, 15, 63, 255, 1023)
	for bit := range 28 {
		n := 1 << bit
		parts(t, int64(n), n%16, n/16%64, n/1024%256, n/262144)
	}
	Header(gen.Out{Args: math.MinInt, Slots: math.MaxInt, Stack: -1, Prim: math.MaxInt})
}

func parts(t *testing.T, header int64, args, slots, stack, prim int) {
	t.Helper()
	if a, s, k, p := Parts(header); a != args || s != slots || k != stack || p != prim {
		t.Errorf("P18.4: Parts(%d) = %d, %d, %d, %d; want %d, %d, %d, %d", header, a, s, k, p, args, slots, stack, prim)
	}
}

// methodOf: a method that a memory has.
func methodOf(t *testing.T, h *heap.Heap, root api.Word, class, name string) api.Word {
	t.Helper()
	for w := h.First(); w != 0; w = h.After(w) {
		d, _ := h.Head(w)
		if methods, _ := h.Get(root, sound.MethodClass); d.Class != methods {
			continue
		}
		selector, _ := h.Get(w, 3)
		holder, _ := h.Get(w, 4)
		symbol, _ := h.Get(holder, sound.Name)
		a, _ := h.Bytes(selector)
		b, _ := h.Bytes(symbol)
		list, _ := h.Get(holder, sound.Methods)
		d, _ = h.Head(list)
		for i := range d.Size {
			if x, _ := h.Get(list, i); x == w && string(a) == name && string(b) == class {
				return w
			}
		}
	}
	t.Fatalf("%s has no %s", class, name)
	return 0
}

func TestContext(t *testing.T) {
	p := program(t, "Object methods! none! foo: x | y | y := x. ^x + (y foo: x)! prim: a <primitive: 999> | b c d | ! !", "String methods! bar ^[:x | [:y | self foo: x bar: y baz: 5]]! !")
	for _, m := range [][2]string{{"Object", "none"}, {"Object", "foo:"}, {"Object", "prim:"}, {"String", "bar"}} {
		h, root, _ := Build(p, 5000)
		method := methodOf(t, h, root, m[0], m[1])
		var o gen.Out
		for _, c := range p.Classes {
			for _, x := range c.Methods {
				if c.Name == m[0] && x.Name == m[1] {
					o = x
				}
			}
		}
		for _, ends := range [][2]api.Word{{root, method}, {7, 9}, {method, root}, {math.MaxUint64, 1}} {
			before := h.Words()
			w, e := Context(h, root, method, ends[0], ends[1])
			nothing, _ := h.Get(root, sound.Nil)
			want := []api.Word{ends[1], 1, 1, method, ends[0], nothing}
			want = append(want, slices.Repeat([]api.Word{nothing}, o.Slots)...)
			want = append(want, slices.Repeat([]api.Word{1}, o.Stack)...)
			after := h.Words()
			class, _ := h.Get(root, sound.ContextClass)
			d, _ := h.Head(w)
			if e != api.OK || d != (head.Head{Class: class, Kind: head.Slots, Size: len(want)}) || !slices.Equal(after[:len(before)], before) || !slices.Equal(after[len(before)+2:], want) {
				t.Errorf("P18.4: Context of %s = %x, %d: %+v, %x, want %x", m, w, e, d, after[len(before):], want)
			}
			if ends[0]%2 == 1 && ends[1]%2 == 1 {
				if n := sound.Check(h, root); n != 0 {
					t.Errorf("P18.4: behind Context the memory breaks rule %d", n)
				}
			}
		}
		// Just enough room, and less.
		for free := range 6 + o.Slots + o.Stack + 4 {
			g, _ := heap.Load(h.Used()+free, 0, h.Words()...)
			before := g.Clone()
			w, e := Context(g, root, method, 1, 1)
			if free < 2+6+o.Slots+o.Stack {
				if w != 0 || e != api.ErrFull || !g.Same(before) {
					t.Errorf("P18.4: Context of %s with %d cells: %x, %d", m, free, w, e)
				}
			} else if !g.Has(w) || e != api.OK || g.Free() != free-(8+o.Slots+o.Stack) {
				t.Errorf("P18.4: Context of %s with %d cells: %x, %d", m, free, w, e)
			}
		}
	}
}

// What is no method, also where there is no room.
func TestContextOfNone(t *testing.T) {
	full, root, _ := Build(program(t, "Object methods! foo ^'text'! !"), 5000)
	tight, _ := heap.Load(full.Used(), 0, full.Words()...)
	methods, _ := full.Get(root, sound.MethodClass)
	for _, h := range []*heap.Heap{full, tight} {
		others := []api.Word{0, 1, 2, 3, 5, 7, 1 << 40, math.MaxUint64, methods + 2}
		count := 0
		for w := h.First(); w != 0; w = h.After(w) {
			if d, _ := h.Head(w); d.Class != methods {
				others = append(others, w)
			} else {
				count++
			}
		}
		if count != 2 {
			t.Errorf("%d methods", count)
		}
		before := h.Clone()
		for _, w := range others {
			if c, e := Context(h, root, w, root, root); c != 0 || e != api.ErrKind || !h.Same(before) {
				t.Errorf("P18.4: Context of %x: %x, %d", w, c, e)
			}
		}
	}
	for _, h := range []*heap.Heap{nil, {}} {
		for _, w := range []api.Word{0, 1, 4, root} {
			if c, e := Context(h, root, w, 1, 1); c != 0 || e != api.ErrKind {
				t.Errorf("P18.4: Context in no memory: %x, %d", c, e)
			}
		}
	}
}

// Headers of any kind: what is no number says nothing, bits above what a header has neither.
func TestContextHeaders(t *testing.T) {
	full, root, _ := Build(program(t), 5000)
	class, _ := full.Get(root, sound.MethodClass)
	for _, header := range []int64{0, 5, 16, 1024, 16*60 + 1024*200, 262144 * 999, 1 << 28, 1<<28 - 1, api.MaxInt, -1, -1024, api.MinInt} {
		h := full.Clone()
		word, _ := small.Of(header)
		method, _ := h.Alloc(class, head.Fields, 5, word)
		_, slots, stack, _ := Parts(header)
		w, e := Context(h, root, method, 1, 3)
		if d, _ := h.Head(w); e != api.OK || d.Size != 6+slots+stack {
			t.Errorf("P18.4: Context of the header %d: %+v, %d", header, d, e)
		}
	}
	for _, kind := range []int{head.Fields, head.Slots, head.Raw} {
		for _, count := range []int{0, 5} {
			h := full.Clone()
			method, _ := h.Alloc(class, kind, count, root)
			w, e := Context(h, root, method, 1, 3)
			if d, _ := h.Head(w); e != api.OK || d.Size != 6 {
				t.Errorf("P18.4: Context of a method without a header: %+v, %d", d, e)
			}
		}
	}
}

// Memory that no layer made: each call ends, and answers 0 or an object.
func TestAnyMemory(t *testing.T) {
	full, root, _ := Build(program(t, "Object methods! foo: x ^'text'! !"), 5000)
	method := methodOf(t, full, root, "Object", "foo:")
	words := full.Words()
	loaded := 0
	for at := range words {
		for _, x := range []api.Word{0, 1, 4, words[at] + 2, words[at] ^ 1<<33, root, method, 1 << 63} {
			other := slices.Clone(words)
			other[at] = x
			h, e := heap.Load(full.Used()+20, 0, other...)
			if e != api.OK {
				continue
			}
			loaded++
			for _, w := range []api.Word{method, root, x} {
				for _, r := range []api.Word{root, method, x} {
					if c, e := Context(h, r, w, x, root); e == api.OK && !h.Has(c) || e != api.OK && c != 0 {
						t.Fatalf("P18.4: Context in any memory: %x, %d", c, e)
					}
				}
			}
		}
	}
	for cut := range len(words) {
		if h, e := heap.Load(full.Cells(), 0, words[:cut]...); e == api.OK {
			if c, e := Context(h, root, method, root, root); e == api.OK && !h.Has(c) || e != api.OK && c != 0 {
				t.Fatalf("P18.4: Context in memory that is cut: %x, %d", c, e)
			}
		}
	}
	if loaded < 3*len(words) {
		t.Errorf("the test tries too little: %d", loaded)
	}
}

// Programs that sema doesn't answer: each Build ends, and answers memory or an error.
func TestAnyProgram(t *testing.T) {
	try := func(p sema.Program) {
		t.Helper()
		for _, cells := range []int{16, 300, 3000, 60000} {
			h, root, e := Build(p, cells)
			if (h == nil) != (e != api.OK) || e == api.OK && !h.Has(root) || e != api.OK && root != 0 {
				t.Fatalf("P18.1: Build of any program: %v, %x, %d", h != nil, root, e)
			}
		}
	}
	try(sema.Program{})
	try(sema.Program{Classes: make([]sema.Class, 3)})
	try(sema.Program{Classes: sema.Kernel()})
	try(sema.Program{Classes: append(sema.Kernel(), sema.Kernel()...)})
	odd := []scope.Item{{}, {Kind: scope.Self}, {Kind: scope.Int, Num: math.MaxInt64}, {Kind: scope.Text, Name: strings.Repeat("a", 5000)}, {Kind: scope.Symbol, Name: strings.Repeat("a", api.MaxObject+1)}, {Kind: scope.Global, Name: "Nobody"}, {Kind: scope.List, Kids: make([]scope.Item, 3)}}
	for seed := range int64(500) {
		m := maker{rand.New(rand.NewSource(seed))}
		p, _ := sema.Build(m.files(m.parts(), 3)...)
		for range 1 + m.Intn(3) {
			n := m.Intn(len(p.Classes))
			c := &p.Classes[n]
			switch m.Intn(9) {
			case 0:
				p.Classes = slices.Delete(p.Classes, n, n+1)
			case 1:
				p.Classes = append(p.Classes, *c)
			case 2:
				c.Super = m.one("", "Nobody", "Object", c.Name, "Class")
			case 3:
				c.Name = m.one("", "Object", "Nobody", "Array")
			case 4:
				c.Kind = []int{-1, 3, 4, math.MaxInt, math.MinInt}[m.Intn(5)]
			case 5:
				c.Own, c.All = []string{"", "a", "a"}, nil
			case 6:
				c.Methods = append(c.Methods, gen.Out{Args: -5, Slots: math.MaxInt, Stack: 1 << 40, Prim: -1})
			case 7:
				c.Metas = append(c.Metas, gen.Out{Name: "foo", Lits: odd[m.Intn(len(odd)):][:1]}, gen.Out{Name: "a", Code: make([]byte, m.Intn(3)*api.MaxObject)})
			case 8:
				c.Methods = []gen.Out{{}, {}}
			}
		}
		try(p)
	}
}

// What is handed in isn't changed, nor kept; what is answered shares nothing.
func TestMemory(t *testing.T) {
	text := definition("A", "Object", "a b") + "A methods! foo ^#(a 'b' #(c))! bar: x ^x! ! A class methods! baz ^'text'! !"
	p, same := program(t, text), program(t, text)
	h, root, _ := Build(p, 5000)
	if !reflect.DeepEqual(p, same) {
		t.Errorf("P18.1: Build has changed the program: %+v", p)
	}
	before := h.Clone()
	again, _, _ := Build(p, 5000)
	again.Put(root, 0, 1)
	for i := range p.Classes {
		for _, o := range append(slices.Clone(p.Classes[i].Methods), p.Classes[i].Metas...) {
			clear(o.Code)
			clear(o.Lits)
		}
		clear(p.Classes[i].Own)
	}
	clear(p.Classes)
	if !h.Same(before) {
		t.Errorf("P18.1: the memory shares something")
	}
}
