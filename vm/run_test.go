package vm

import (
	"bytes"
	"fmt"
	"math"
	"slices"
	"strings"
	"testing"

	"foundling/api"
	"foundling/boot"
	"foundling/frame"
	"foundling/gc"
	"foundling/image"
	"foundling/sema"
	"foundling/sound"
)

// What the chapter says of numbers.
func TestNumbers(t *testing.T) {
	if Out != 1 || Fault != 2 || Saved != 3 || Running != 0 || Done != 1 || Quit != 2 || OutOfMemory != 3 || Broken != 4 || Margin != 400 {
		t.Errorf("P24.1: the constants are others")
	}
}

// The document's ten examples.
func TestTheTen(t *testing.T) {
	b := `String methods! out <primitive: 60>! ! SmallInteger methods! + a <primitive: 1>! < a <primitive: 12>! digits <primitive: 52>! ! Object methods! yield <primitive: 74>! save <primitive: 91>! in <primitive: 61>! count <primitive: 84>! ! Block methods! value <primitive: 40>! value: a <primitive: 41>! process <primitive: 70>! ! Process methods! resume <primitive: 71>! ! Class methods! new <primitive: 23>! ! Semaphore methods! setup <primitive: 80>! wait <primitive: 81>! signal <primitive: 82>! timer <primitive: 83>! !`
	kernel := strings.Split(library(), "Message methods!")[0]
	for i, p := range []struct {
		text  string
		o     Options
		steps []int
		want  string
	}{
		{"'hi' out", Options{}, []int{100}, "hi, done 2"},
		{"(3 + 4) digits out", Options{}, []int{100}, "7, done 4"},
		{"self foo", Options{}, []int{100}, "FAULT doesNotUnderstand: foo, done 2"},
		{"nil ifTrue: ['never' out]", Options{}, []int{9}, "FAULT mustBeBoolean, done 1"},
		{"| i | i := 0. [i < 3] whileTrue: [i digits out. i := i + 1]", Options{}, []int{99}, "0 / 1 / 2, done 17"},
		{"self in digits out. 'end' out", Options{Input: []byte{7}}, []int{5, 90}, ", running 3; 7 / end, done 5"},
		{"self late value! late ^[^1]", Options{}, []int{99}, "FAULT cannotReturn:, done 3"},
		{"['a' out. self yield. 'b' out] process resume. 'c' out. self yield. 'd' out", Options{}, []int{99}, "c / a / d / b, done 9"},
		{"(self save ifTrue: ['again'] ifFalse: ['first']) out", Options{}, []int{50, -9000, 50}, "SAVED / first, done 3; again, done 4"},
		{"| s | s := Semaphore new setup. s timer. s wait. 'tick' out", Options{Ticks: []int{9}}, []int{90}, "tick, done 10"},
	} {
		q, problems := sema.Build(kernel, b, start(p.text))
		h, root, e := boot.Build(q, 60000)
		if len(problems) > 0 || e != api.OK {
			t.Fatalf("no program: %v, %d", problems, e)
		}
		m := made(t, h, root, p.o)
		var got []string
		seen := 0
		for _, n := range p.steps {
			if n < 0 {
				h, root, _ := image.Decode(m.Image(), -n)
				m, seen = made(t, h, root, Options{Count: m.Count()}), 0
				continue
			}
			end := m.Run(n)
			list := m.Events()
			got = append(got, fmt.Sprintf("%s, %s %d", lines(list[seen:]), names[end], m.Count()))
			seen = len(list)
		}
		if s := strings.Join(got, "; "); s != p.want {
			t.Errorf("P24.1: example %d: %s; want %s", i+1, s, p.want)
		}
	}
}

// P24.2: steps, of many at once, one at a time, none; behind each end.
func TestRun(t *testing.T) {
	file := start("| i | i := 0. [i < 3] whileTrue: [i digits out. i := i + 1]")
	whole := machineOf(t, 30000, Options{}, file)
	if end := whole.Run(math.MaxInt); end != Done || whole.Steps() != 56 {
		t.Fatalf("P24.2: %s behind %d steps", names[end], whole.Steps())
	}
	for n := range 60 {
		m := machineOf(t, 30000, Options{}, file)
		for _, none := range []int{0, -1, math.MinInt} {
			if end := m.Run(none); end != Running || m.Steps() != 0 || m.Count() != 0 {
				t.Errorf("P24.2: Run(%d): %s, %d", none, names[end], m.Steps())
			}
		}
		end := m.Run(n)
		if want := min(n, 56); m.Steps() != want || (end == Running) != (n <= 56) {
			t.Errorf("P24.2: Run(%d): %s, %d steps", n, names[end], m.Steps())
		}
		for range 60 - n {
			end = m.Run(1)
		}
		for _, again := range []int{0, 1, -5, 1000} {
			if now := m.Run(again); now != end || end != Done {
				t.Errorf("P24.2: Run(%d) again: %s", again, names[now])
			}
		}
		if m.outcome(end) != whole.outcome(Done) {
			t.Errorf("P24.2: parted behind %d: %s; want %s", n, m.outcome(end), whole.outcome(Done))
		}
	}
}

// Memory (DOC.md): what is handed in isn't changed, nor kept; what is answered is new.
func TestNewMemory(t *testing.T) {
	h, root := memoryOf(t, 30000, start("self in digits out. 'hi' out. self save. self gc. 'ho' out. self in digits out"))
	before := h.Clone()
	o := Options{Input: []byte{1, 2, 3, 4}, Ticks: []int{9, 3, 5}, Collects: []int{7, 1, 4}}
	kept := Options{Input: slices.Clone(o.Input), Ticks: slices.Clone(o.Ticks), Collects: slices.Clone(o.Collects)}
	m := made(t, h, root, o)
	if !slices.Equal(o.Ticks, kept.Ticks) || !slices.Equal(o.Collects, kept.Collects) || !bytes.Equal(o.Input, kept.Input) {
		t.Errorf("Memory: New has changed what was handed in")
	}
	clear(o.Input)
	clear(o.Ticks)
	clear(o.Collects)
	if n := m.Used(); n != h.Used() || m.Collected() != 0 || m.Steps() != 0 || m.Count() != 0 || m.Image() != nil || len(m.Events()) != 0 || string(m.Rest()) != "\x01\x02\x03\x04" {
		t.Errorf("P24.1: a new machine: %d cells, want %d", n, h.Used())
	}
	m.Run(20)
	h.Put(root, sound.Schedule, root)
	end := m.Run(100)
	h.Put(root, sound.Schedule, schedule(before, root))
	if !h.Same(before) {
		t.Errorf("Memory: the heap that was handed in has changed")
	}
	if got := lines(m.Events()); got != "1 / hi / SAVED / ho / 2" || end != Done || string(m.Rest()) != "\x03\x04" || m.Collected() != 4 {
		t.Errorf("Memory: %s, %s, rest %x, %d collections", got, names[end], m.Rest(), m.Collected())
	}
	list, rest, b := m.Events(), m.Rest(), m.Image()
	for _, e := range list {
		clear(e.Bytes)
	}
	clear(list[:cap(list)])
	clear(rest[:cap(rest)])
	clear(b[:cap(b)])
	if lines(m.Events()) != "1 / hi / SAVED / ho / 2" || string(m.Rest()) != "\x03\x04" || m.Image()[0] != 'F' {
		t.Errorf("Memory: what was answered is kept: %s", lines(m.Events()))
	}
}

// schedule: of memory.
func schedule(h interface {
	Get(api.Word, int) (api.Word, api.Errno)
}, root api.Word) api.Word {
	w, _ := h.Get(root, sound.Schedule)
	return w
}

// Input that isn't taken is left, whatever is read of it.
func TestRest(t *testing.T) {
	for count := range 5 {
		input := []byte{9, 0, 255, 7}[:min(count, 4)]
		for takes := range 7 {
			m := machineOf(t, 30000, Options{Input: input}, start(strings.Repeat("self in == nil ifTrue: ['nil' out]. ", takes)))
			m.Run(most)
			want := strings.Repeat("nil / ", max(takes-len(input), 0))
			if got := lines(m.Events()); got != strings.TrimSuffix(want, " / ") || !bytes.Equal(m.Rest(), input[min(takes, len(input)):]) {
				t.Errorf("P24.1: %d taken of %x: %s, rest %x", takes, input, got, m.Rest())
			}
		}
	}
}

// How often there was a collection: behind steps that are asked for, each once; where a primitive asks for it; nothing is left then that isn't reached.
func TestCollected(t *testing.T) {
	text := start("Array new: 50. self gc. Array new: 60. 'x' out. Array new: 70")
	total := machineOf(t, 30000, Options{}, text)
	total.Run(most)
	if total.Collected() != 1 || total.Steps() < 15 {
		t.Errorf("P24.2: %d collections, %d steps", total.Collected(), total.Steps())
	}
	for _, c := range []struct {
		list []int
		want int
	}{
		{nil, 1}, {[]int{0, -1, math.MinInt}, 1}, {[]int{1}, 2}, {[]int{3, 3, 3, 2}, 3}, {[]int{total.Steps(), total.Steps() + 1, math.MaxInt}, 2}, {upTo(total.Steps()), total.Steps() + 1},
	} {
		m := machineOf(t, 30000, Options{Collects: c.list}, text)
		done := 0
		for m.Run(1) == Running {
			done++
			if live, _ := gc.Live(m.inside.Heap, m.inside.root); slices.Contains(c.list, done) && m.Used() != live {
				t.Errorf("P24.2: behind step %d: %d cells are used, of which %d are reached", done, m.Used(), live)
			}
		}
		if m.Collected() != c.want || m.Steps() != total.Steps() || lines(m.Events()) != "x" {
			t.Errorf("P24.2: Collects %v: %d collections, want %d", c.list, m.Collected(), c.want)
		}
	}
	m := machineOf(t, 30000, Options{}, start("Array new: 500. self gc"))
	for m.Collected() == 0 {
		m.Run(1)
	}
	if live, _ := gc.Live(m.inside.Heap, m.inside.root); m.Used() != live {
		t.Errorf("P24.1: behind primitive 90: %d cells are used, of which %d are reached", m.Used(), live)
	}
}

// P24.4: memory of all sizes about Margin; a step needs it ahead, not behind.
func TestMargin(t *testing.T) {
	h, _ := memoryOf(t, 30000, start("'hi' out"))
	used := h.Used()
	m := machineOf(t, used+Margin, Options{}, start("'hi' out"))
	if m.Run(2); m.Collected() != 0 {
		t.Errorf("P24.4: a collection with Margin free cells")
	}
	if m.Run(1); m.Collected() != 1 {
		t.Errorf("P24.4: no collection with fewer free cells than Margin")
	}
	for _, c := range []struct{ free, end, steps int }{{Margin - 1, OutOfMemory, 0}, {0, OutOfMemory, 0}, {Margin, OutOfMemory, 2}, {Margin + 8, OutOfMemory, 2}, {Margin + 9, Done, 8}, {Margin + 10, Done, 8}} {
		m := machineOf(t, used+c.free, Options{}, start("'hi' out"))
		if end := m.Run(0); end != Running {
			t.Errorf("P24.4: %s ahead of a step", names[end])
		}
		end := m.Run(50)
		if end != c.end || m.Steps() != c.steps {
			t.Errorf("P24.4: with %d free cells: %s behind %d steps; want %s behind %d", c.free, names[end], m.Steps(), names[c.end], c.steps)
		}
		collected := m.Collected()
		if again := m.Run(50); again != end || m.Collected() != collected || m.Steps() != c.steps {
			t.Errorf("P24.4: %s, and then %s", names[end], names[again])
		}
		m.check(t, "an end")
	}
}

// P24.4: a primitive that finds no room is done behind a collection; with none then it is the end.
func TestNoRoom(t *testing.T) {
	h, _ := memoryOf(t, 30000, start("'hi' out"))
	for _, c := range []struct {
		text      string
		room      int
		end       int
		want      string
		collected int
	}{
		{"Array new: 2000. Array new: 2000. 'x' out", 3000, Done, "x", 1},
		{"| a | a := Array new: 2000. Array new: 2000. 'x' out", 3000, OutOfMemory, "", 1},
		{"'x' out. Array new: 20000. 'never' out", 3000, OutOfMemory, "x", 1},
		{"| x | x := 'abc' , 'def'. Array new: 2000. String new: 16000. ((x , (String new: 8000)) at: 4) digits out. x out", 5000, Done, "100 / abcdef", 1},
		{"| x | x := 'abc' , 'def'. Array new: 2000. ((String new: 8000) , x) size digits out. (x perform: #, with: (String new: 8000)) size digits out", 4500, Done, "8006 / 8006", 1},
		{"Array new: 2000. (Array perform: #new: with: 2000) size digits out. (Array perform: #new: all: #(2000)) size digits out", 3000, Done, "2000 / 2000", 2},
		{"['abc' , (String new: 20000)] process priority: 4; resume. 'never' out", 4000, OutOfMemory, "", 1},
		{"Array new: 2400. ('abc' , 'def') out. Array new: 3. ('x' , 'y') out. 3 digits out", 3000, Done, "abcdef / xy / 3", 0},
	} {
		m := machineOf(t, h.Used()+c.room, Options{}, start(c.text))
		end := m.Run(most)
		if got := lines(m.Events()); got != c.want || end != c.end || c.collected > 0 && m.Collected() != c.collected {
			t.Errorf("P24.4: %s: %s, %s, %d collections; want %s, %s, %d", c.text, got, names[end], m.Collected(), c.want, names[c.end], c.collected)
		}
		steps, count := m.Steps(), m.Count()
		if again := m.Run(9); again != end || m.Steps() != steps || m.Count() != count {
			t.Errorf("P24.4: %s: %s, and then %s", c.text, names[end], names[again])
		}
		m.check(t, c.text)
	}
	// Just as many cells as there are behind a collection, and one more.
	text := start("Array new: 2000. Array new: 3000")
	big := machineOf(t, 30000, Options{}, text)
	big.Run(8) // all ahead of the second one's message
	live, _ := gc.Live(big.inside.Heap, big.inside.root)
	m := machineOf(t, live+3002, Options{}, text)
	if end := m.Run(9); end != Running || m.Steps() != 9 || m.Count() != 3 || m.Collected() != 1 || m.Used() != live+3002 {
		t.Errorf("P24.4: with just enough cells: %s behind %d steps, %d collections, %d of %d cells", names[end], m.Steps(), m.Collected(), m.Used(), live+3002)
	}
	if end := m.Run(1); end != OutOfMemory || m.Steps() != 9 {
		t.Errorf("P24.4: ahead of the next step: %s behind %d steps", names[end], m.Steps())
	}
	m = machineOf(t, live+3001, Options{}, text)
	if end := m.Run(9); end != OutOfMemory || m.Steps() != 8 || m.Count() != 2 || m.Collected() != 1 {
		t.Errorf("P24.4: with a cell less: %s behind %d steps, at %d", names[end], m.Steps(), m.Count())
	}
}

// P24.4: recursion up to the end of memory: what is shown is a beginning; with more memory it is more.
func TestDeep(t *testing.T) {
	const deep = "UndefinedObject methods! down: n n digits out. ^(self down: n + 1) + 1! !"
	shown := 0
	for _, cells := range []int{4000, 8000, 16000, 64000, 256000} {
		m := machineOf(t, cells, Options{}, deep, start("self down: 0. 'never' out"))
		end := m.Run(math.MaxInt)
		list := m.Events()
		if end != OutOfMemory || len(list) <= shown || m.Collected() == 0 {
			t.Errorf("P24.4: with %d cells: %s, %d events", cells, names[end], len(list))
		}
		for i, e := range list {
			if string(e.Bytes) != fmt.Sprint(i) {
				t.Fatalf("P24.1: event %d is %s", i, e.Bytes)
			}
		}
		shown = len(list)
		m.check(t, "deep recursion")
	}
	if shown < 10000 {
		t.Errorf("the test tries too little: %d", shown)
	}
	// As deep as is asked for, and back; what isn't reached any more is room again.
	m := machineOf(t, 40000, Options{}, "UndefinedObject methods! down: n n < 1 ifTrue: [^0]. ^(self down: n - 1) + 1! !", start("3 < 4 ifTrue: [(self down: 1000) digits out]. (self down: 1000) digits out. [^(self down: 1500) digits out] value"))
	if end := m.Run(math.MaxInt); end != Done || lines(m.Events()) != "1000 / 1000 / 1500" {
		t.Errorf("P24.1: %s, %s", lines(m.Events()), names[end])
	}
}

// A message that asks for itself, by way of 33: no step comes to an end but by what it shows, and each ends.
func TestEndless(t *testing.T) {
	const ring = "| a b c | a := Array new: 2. a at: 1 put: #perform:all:. b := Array new: 2. b at: 1 put: #perform:all:. c := Array new: 2. c at: 1 put: #perform:all:. "
	for _, text := range []string{
		ring + "a at: 2 put: a. 'x' out. self perform: #perform:all: all: a. 'never' out",
		ring + "a at: 2 put: a. 'x' out. self perform: #perform:all: with: #perform:all: with: a. 'never' out",
		ring + "a at: 2 put: b. b at: 2 put: a. 'x' out. self perform: #perform:all: all: a. 'never' out",
		ring + "a at: 2 put: b. b at: 2 put: c. c at: 2 put: a. 'x' out. self perform: #perform:all: all: a. 'never' out",
		ring + "a at: 2 put: b. b at: 2 put: c. c at: 2 put: b. 'x' out. self perform: #perform:all: all: a. 'never' out",
		ring + "a at: 2 put: b. b at: 2 put: c. c at: 2 put: c. 'x' out. ['y' out] process priority: 2; resume. self perform: #perform:all: all: a. 'never' out",
	} {
		m := machineOf(t, 30000, Options{Ticks: upTo(400), Collects: []int{500, 502}}, start(text))
		if end := m.Run(400); end != Running || lines(m.Events()) != "x" {
			t.Errorf("P24.1: %s: %s, %s", text, lines(m.Events()), names[end])
		}
		count := m.Count()
		before := m.inside.Heap.Clone()
		if end := m.Run(50); end != Running || m.Count() != count || m.Steps() != 450 || !m.inside.Same(before) {
			t.Errorf("P24.1: %s: %s at %d, behind %d steps", text, names[end], m.Count(), m.Steps())
		}
		if end := m.Run(60); end != Running || m.Count() != count || m.Steps() != 510 || m.Collected() != 2 {
			t.Errorf("P24.1: %s: %s at %d, behind %d steps", text, names[end], m.Count(), m.Steps())
		}
		m.check(t, text)
	}
	// A long way that isn't a ring.
	for n := range 40 {
		way := fmt.Sprintf("| a b n | n := %d. a := #(digits #()). [0 < n] whileTrue: [b := Array new: 2. b at: 1 put: #perform:all:; at: 2 put: a. a := b. n := n - 1]. (7 perform: #perform:all: all: a) out", n)
		m := machineOf(t, 30000, Options{}, start(way))
		if end := m.Run(most); end != Done || lines(m.Events()) != "7" {
			t.Errorf("P24.1: %d arrays within one another: %s, %s", n, lines(m.Events()), names[end])
		}
	}
}

// A message that asks for itself word by word, but by super: its method is asked for in the class above, that of what it asks for in the receiver's own.
func TestAskedBehindSuper(t *testing.T) {
	const above = "Object subclass: #A fields: ''! A methods! p: a with: b <primitive: 33> ^'above' out! q: a with: b <primitive: 33> ^'above' out! ! A subclass: #B fields: ''! "
	const lists = "go | a b | a := Array new: 2. b := Array new: 2. a at: 1 put: #p:with:; at: 2 put: a. "
	const ring = "b at: 1 put: #q:with:; at: 2 put: a. a at: 2 put: b. "
	const plain = "p: a with: b ('below', a) out. ^7! "
	const asks = "p: a with: b <primitive: 33> ^'below' out! "
	const failing = "p: a with: b <primitive: 84> ^(b == a) ifTrue: ['same'] ifFalse: ['below' out]! "
	for _, x := range []struct {
		text, want string
		end        int
	}{
		{above + "B methods! " + plain + lists + "(super p: #p:with: with: a) digits out. (super p: #p:with: with: a) digits out! !", "belowp:with: / 7 / belowp:with: / 7", Done},
		{above + "B methods! " + plain + lists + "[(super p: #p:with: with: a) digits out] value! !", "belowp:with: / 7", Done},
		{above + "B methods! " + failing + lists + "super p: #p:with: with: a. 'end' out! !", "below / end", Done},
		{above + "B methods! " + plain + lists + ring + "(super p: #q:with: with: b) digits out. 'end' out! !", "belowq:with: / 7 / end", Done},
		{above + "B methods! " + plain + lists + ring + "(super q: #p:with: with: a) digits out. 'end' out! !", "belowp:with: / 7 / end", Done},
		{above + "B methods! " + plain + lists + "super perform: #p:with: with: #p:with: with: a. 'end' out! !", "belowp:with: / end", Done},
		{above + "B methods! " + asks + lists + "'x' out. super p: #p:with: with: a. 'never' out! !", "x", Running},
		{above + "B methods! " + lists + "'x' out. super p: #p:with: with: a. 'never' out! !", "x", Running},
		{above + "B methods! " + asks + lists + ring + "'x' out. super p: #q:with: with: b. 'never' out! !", "x", Running},
		{above + "B subclass: #C fields: ''! C methods! p: a with: b super p: a with: b. ^'never' out! ! B methods! " + asks + lists + "'x' out. super p: #p:with: with: a. 'end' out! ! UndefinedObject methods! start C new go! !", "x", Running},
	} {
		files := []string{x.text}
		if !strings.Contains(x.text, "start") {
			files = append(files, start("B new go"))
		}
		for _, o := range []Options{{}, {Ticks: upTo(60), Collects: upTo(120)}} {
			m := machineOf(t, 60000, o, files...)
			if end := m.Run(3000); end != x.end || lines(m.Events()) != x.want {
				t.Errorf("P24.1: %s: %s, %s; want %s", x.text, lines(m.Events()), names[end], x.want)
			}
			m.check(t, x.text)
		}
	}
}

// 91: the snapshot is the memory, where only the answer is another one.
func TestImage(t *testing.T) {
	m := machineOf(t, 30000, Options{}, start("Array new: 9. (self save ifTrue: ['again'] ifFalse: ['first']) out. self save ifTrue: ['second' out]"))
	for m.Image() == nil {
		m.Run(1)
	}
	h, root, e := image.Decode(m.Image(), 30000)
	if e != api.OK || root != m.inside.root || sound.Check(h, root) != 0 {
		t.Fatalf("P24.3: the snapshot: %d", e)
	}
	f, _ := frame.Open(h, root, m.inside.context())
	if top, _ := f.Peek(0); top != m.inside.special(sound.True) {
		t.Errorf("P24.3: it answers %x", top)
	}
	f.Pop()
	f.Push(m.inside.special(sound.False))
	if !h.Same(m.inside.Heap) {
		t.Errorf("P24.3: the snapshot is other memory than that which was saved")
	}
	b := m.Image()
	if end := m.Run(5); end != Running || !bytes.Equal(m.Image(), b) {
		t.Errorf("P24.3: the snapshot changes")
	}
	if end := m.Run(99); end != Done || bytes.Equal(m.Image(), b) || lines(m.Events()) != "SAVED / first / SAVED" {
		t.Errorf("P24.3: %s, %s", lines(m.Events()), names[end])
	}
	for _, x := range []struct {
		b    []byte
		want string
	}{{b, "again / SAVED"}, {m.Image(), "second"}} {
		words := (len(x.b) - 36) / 8
		for _, cells := range []int{words + 2 + Margin + 40, 30000, 60000} {
			h, root, _ := image.Decode(x.b, cells)
			n := made(t, h, root, Options{})
			if end := n.Run(99); end != Done || lines(n.Events()) != x.want {
				t.Errorf("P24.3: in %d cells: %s, %s; want %s", cells, lines(n.Events()), names[end], x.want)
			}
		}
		h, root, _ := image.Decode(x.b, words+2)
		if end := made(t, h, root, Options{}).Run(99); end != OutOfMemory {
			t.Errorf("P24.3: without room: %s", names[end])
		}
	}
	// With enough that isn't reached it goes on in just as many cells.
	m = machineOf(t, 30000, Options{}, start("Array new: 500. (self save ifTrue: ['again'] ifFalse: ['first']) out"))
	m.Run(99)
	h, root, _ = image.Decode(m.Image(), (len(m.Image())-36)/8+2)
	if n := made(t, h, root, Options{}); h.Free() != 0 || n.Run(99) != Done || lines(n.Events()) != "again" {
		t.Errorf("P24.3: in just as many cells: %s", lines(n.Events()))
	}
}

// Methods and blocks with as many arguments, slots and words on the stack as there may be.
func TestMost(t *testing.T) {
	params, args, sum := "", "", "0"
	for i := range api.MaxArgs {
		params += fmt.Sprintf("k%d: a%d ", i, i)
		args += fmt.Sprintf("k%d: %d ", i, 1<<i)
		sum += fmt.Sprintf(" + a%d", i)
	}
	temps := ""
	for i := range api.MaxTemps - api.MaxArgs {
		temps += fmt.Sprintf("t%d ", i)
	}
	deep := strings.Repeat("(1 + ", 35) + "1" + strings.Repeat(")", 35)
	file := "Object methods! " + params + "| " + temps + "| t47 := " + sum + ". ^t47! sum ^" + deep + "! !"
	m := machineOf(t, 30000, Options{}, file, "Object subclass: #D fields: ''! D methods! doesNotUnderstand: m ^m arguments! !", start("(self "+args+") digits out. self sum digits out. (D new "+strings.ReplaceAll(args, "k", "j")+") size digits out"))
	if end := m.Run(most); end != Done || lines(m.Events()) != "4095 / 36 / 12" {
		t.Errorf("P24.1: %s, %s", lines(m.Events()), names[end])
	}
}
