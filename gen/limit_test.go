package gen

import (
	"math/rand"
	"reflect"
	"slices"
	"strconv"
	"strings"
	"testing"
	"unsafe"

	"foundling/api"
	"foundling/code"
	"foundling/scope"
)

func none() scope.Item { return scope.Item{Kind: scope.Nil} }

func number(n int64) scope.Item { return scope.Item{Kind: scope.Int, Num: n} }

func send(name string, kids ...scope.Item) scope.Item {
	return scope.Item{Kind: scope.Send, Name: name, Kids: kids}
}

func blockOf(kids ...scope.Item) scope.Item { return scope.Item{Kind: scope.Block, Kids: kids} }

func returned(i scope.Item) scope.Item {
	return scope.Item{Kind: scope.Return, Kids: []scope.Item{i}}
}

// filled: statements whose code is of so many bytes, without a Pop behind the last one.
func filled(size int) []scope.Item {
	var list []scope.Item
	if size%2 == 0 {
		list = append(list, number(1))
		size -= 3
	}
	for ; size > 0; size -= 2 {
		list = append(list, none())
	}
	return list
}

// tried: what Compile answers of a body; it is held against the model.
func tried(t *testing.T, body ...scope.Item) (Out, api.Errno) {
	t.Helper()
	c := scope.Code{Name: "foo", Slots: 60, Body: body}
	same(t, c)
	return Compile(c)
}

// Code of MaxCode bytes, and of one more, as statements, in a Block, in line, in a loop: of each the rest takes so many bytes.
func TestCodeSize(t *testing.T) {
	for name, c := range map[string]struct {
		rest int
		of   func(list []scope.Item) scope.Item
	}{
		"statements": {1, nil},
		"a Block":    {4 + 1 + 3, func(list []scope.Item) scope.Item { return blockOf(list...) }},
		"ifTrue:":    {1 + 3 + 3 + 1 + 3, func(list []scope.Item) scope.Item { return send("ifTrue:", none(), blockOf(list...)) }},
		"ifTrue:ifFalse:": {1 + 3 + 1 + 3 + 3, func(list []scope.Item) scope.Item {
			return send("ifTrue:ifFalse:", none(), blockOf(), blockOf(list...))
		}},
		"and:":             {1 + 3 + 3 + 1 + 3, func(list []scope.Item) scope.Item { return send("and:", none(), blockOf(list...)) }},
		"whileTrue:, b":    {1 + 3 + 1 + 3 + 1 + 3, func(list []scope.Item) scope.Item { return send("whileTrue:", blockOf(), blockOf(list...)) }},
		"whileFalse:, [r]": {3 + 1 + 1 + 3 + 1 + 3, func(list []scope.Item) scope.Item { return send("whileFalse:", blockOf(list...), blockOf()) }},
		"whileTrue":        {3 + 3 + 1 + 3, func(list []scope.Item) scope.Item { return send("whileTrue", blockOf(list...)) }},
	} {
		for _, size := range []int{16000, api.MaxCode - 1, api.MaxCode, api.MaxCode + 1, api.MaxCode + 2, 20000, api.MaxJump, api.MaxJump + 1, 70000} {
			body := filled(size - c.rest)
			if c.of != nil {
				body = []scope.Item{c.of(body)}
			} else {
				body = append(filled(size-c.rest-2), returned(none()))
			}
			out, e := tried(t, body...)
			want := api.OK
			if size > api.MaxCode {
				want = api.ErrSize
			}
			if e != want || e == api.OK && len(out.Code) != size {
				t.Errorf("P15.1: %s, %d bytes: %d bytes, %d, want %d", name, size, len(out.Code), e, want)
			}
		}
	}
}

// Jumps forth and back, and a Block, of MaxJump bytes and of one more: the code is too great anyhow.
func TestJumpSize(t *testing.T) {
	for far := api.MaxJump - 1; far <= api.MaxJump+1; far++ {
		for name, i := range map[string]scope.Item{
			"forth, behind the block":  send("ifTrue:", none(), blockOf(filled(far-3)...)),
			"forth, behind the other":  send("ifTrue:ifFalse:", none(), blockOf(), blockOf(filled(far)...)),
			"back":                     send("whileTrue", blockOf(filled(far-6)...)),
			"back, and out of a loop":  send("whileFalse:", blockOf(), blockOf(filled(far-8)...)),
			"a Block":                  blockOf(filled(far - 1)...),
			"a Block that is returned": returned(blockOf(filled(far - 1)...)),
		} {
			if out, e := tried(t, i); e != api.ErrSize || !reflect.DeepEqual(out, Out{}) {
				t.Errorf("P15.1: %s, %d: %d", name, far, e)
			}
		}
	}
}

// sends: so many literals, each a message's name.
func sends(count int) []scope.Item {
	var list []scope.Item
	for n := range count {
		list = append(list, send("m"+strconv.Itoa(n), none()))
	}
	return list
}

func TestLiteralCount(t *testing.T) {
	text := scope.Item{Kind: scope.Text, Name: "m0"}
	for name, c := range map[string]struct {
		body []scope.Item
		want api.Errno
	}{
		"200":                    {sends(200), api.OK},
		"201":                    {sends(201), api.ErrSize},
		"200, all of them twice": {append(sends(200), sends(200)...), api.OK},
		"199 and a text":         {append(sends(199), text), api.OK},
		"200 and a text":         {append(sends(200), text), api.ErrSize},
		"200 and a small number": {append(sends(200), number(127)), api.OK},
		"200 and a number":       {append(sends(200), number(128)), api.ErrSize},
		"200 and what is in line": {append(sends(200), send("ifTrue:", none(), blockOf(sends(200)...))),
			api.OK},
		"199, one more in a Block": {append(sends(199), blockOf(text)), api.OK},
		"200, one more in a Block": {append(sends(200), blockOf(text)), api.ErrSize},
		"200, one more where nothing comes": {append(sends(200), send("ifTrue:", blockOf(), blockOf(returned(none()))), send("whileTrue:", blockOf(returned(none())), blockOf(text))),
			api.ErrSize},
	} {
		out, e := tried(t, c.body...)
		if e != c.want || e == api.OK && len(out.Lits) != 200 {
			t.Errorf("P15.1: %s: %d literals, %d, want %d", name, len(out.Lits), e, c.want)
		}
	}
}

// nested: a text of messages of 12 arguments within one another, the last one of so many; the stack is of 12 words a level, and of one more than the last one has arguments.
func nested(levels, last int) string {
	var innermost strings.Builder
	innermost.WriteString("nil ")
	for n := range last {
		innermost.WriteString(string(rune('a'+n)) + ": 1 ")
	}
	text := innermost.String()
	if last == 0 {
		text = "nil"
	}
	for range levels {
		text = "nil a: 1 b: 1 c: 1 d: 1 e: 1 f: 1 g: 1 h: 1 i: 1 j: 1 k: 1 l: (" + text + ")"
	}
	return text
}

func TestStackSize(t *testing.T) {
	for text, want := range map[string]int{
		"foo ^" + nested(16, 6):                           199,
		"foo ^" + nested(16, 7):                           200,
		"foo ^" + nested(16, 8):                           201,
		"foo ^" + nested(17, 0):                           205,
		"foo [" + nested(16, 7) + "]":                     200,
		"foo [" + nested(16, 8) + "]":                     201,
		"foo ^1 + [" + nested(16, 7) + "]":                200,
		"foo ^1 + (" + nested(16, 7) + ")":                201,
		"foo ^1 + (true ifTrue: [" + nested(16, 6) + "])": 200,
		"foo ^1 + (true ifTrue: [" + nested(16, 7) + "])": 201,
		"foo ^[:p :q | " + nested(16, 7) + "]":            200,
		"foo " + nested(16, 6) + "; bar":                  200,
		"foo " + nested(16, 7) + "; bar":                  201,
		"foo [^1] whileTrue: [" + nested(17, 0) + "]":     1,
		"foo ^true ifTrue: [| v | v := " + nested(16, 7) + "] ifFalse: [[^1] whileTrue]": 200,
	} {
		out, e := Compile(resolved(t, text))
		if want > api.MaxStack {
			if e != api.ErrSize || !reflect.DeepEqual(out, Out{}) {
				t.Errorf("P15.1: %.40q.. of a stack of %d: %d", text, want, e)
			}
			continue
		}
		if e != api.OK || out.Stack != want || walked(out.Code) != want {
			t.Errorf("P15.1, P15.3: %.40q.. of a stack of %d: %d, %d", text, want, out.Stack, e)
		}
	}
	for _, c := range []struct {
		count int
		want  api.Errno
	}{{198, api.OK}, {199, api.OK}, {200, api.ErrSize}, {254, api.ErrSize}, {255, api.ErrSize}, {256, api.ErrSize}, {257, api.ErrSize}, {70000, api.ErrSize}} {
		kids := slices.Repeat([]scope.Item{none()}, c.count+1)
		out, e := Compile(scope.Code{Body: []scope.Item{send("foo", kids...)}})
		if e != c.want || e == api.OK && out.Stack != c.count+1 {
			t.Errorf("P15.1: a message with %d arguments: %d, %d, want %d", c.count, out.Stack, e, c.want)
		}
	}
}

// Of what is too great in several ways, and of what isn't of the form, too, the least is told.
func TestSeveral(t *testing.T) {
	all := slices.Concat(sends(201), filled(70000), []scope.Item{blockOf(filled(33000)...)})
	if _, e := tried(t, all...); e != api.ErrSize {
		t.Errorf("P15.1: %d", e)
	}
	if out, e := Compile(scope.Code{Body: slices.Concat(sends(201), []scope.Item{{Kind: scope.Hole}})}); e != api.ErrSize || !reflect.DeepEqual(out, Out{}) {
		t.Errorf("P15.1: %d", e)
	}
}

// Fields have the numbers of an instruction; a greater one is too great for it.
func TestFields(t *testing.T) {
	for slot, want := range map[int]api.Errno{0: api.OK, 59: api.OK, 255: api.OK, 256: api.ErrSize, 1 << 40: api.ErrSize, -1: api.ErrForm} {
		for _, i := range []scope.Item{{Kind: scope.Field, Slot: slot}, {Kind: scope.SetField, Slot: slot, Kids: []scope.Item{none()}}} {
			out, e := Compile(scope.Code{Body: []scope.Item{i}})
			if e != want || (e == api.OK) != (len(out.Code) > 0) {
				t.Errorf("P15.1: field %d: %+v, %d", slot, out, e)
			}
		}
	}
}

// As many slots as it uses, or more, are enough; fewer are not.
func TestSlots(t *testing.T) {
	temp := scope.Item{Kind: scope.Temp, Slot: 7}
	for name, i := range map[string]scope.Item{
		"a Temp":           temp,
		"a SetTemp":        {Kind: scope.SetTemp, Slot: 7, Kids: []scope.Item{none()}},
		"a Block's":        {Kind: scope.Block, Slot: 6, Num: 1, Width: 2},
		"a Block's params": {Kind: scope.Block, Slot: 5, Num: 3, Width: 3},
		"in line":          send("and:", none(), scope.Item{Kind: scope.Block, Slot: 7, Width: 1}),
		"not reached":      send("whileTrue:", blockOf(returned(none())), blockOf(temp)),
	} {
		for slots, want := range map[int]api.Errno{8: api.OK, 9: api.OK, 256: api.OK, 1 << 62: api.OK, 7: api.ErrForm, 0: api.ErrForm, -1: api.ErrForm} {
			out, e := Compile(scope.Code{Slots: slots, Body: []scope.Item{i}})
			if e != want || e == api.OK && out.Slots != slots || e != api.OK && !reflect.DeepEqual(out, Out{}) {
				t.Errorf("P15.1: %s, %d slots: %+v, %d", name, slots, out, e)
			}
		}
	}
}

// Codes that Resolve doesn't answer, since something stands where it may not.
func TestWrong(t *testing.T) {
	hole, kids := scope.Item{Kind: scope.Hole}, func(kind int, kids ...scope.Item) scope.Item {
		return scope.Item{Kind: kind, Kids: kids}
	}
	var list []scope.Item
	for _, bad := range []scope.Item{hole, returned(none()), {}, {Kind: -1}, {Kind: 20}, {Kind: 1 << 40}} {
		list = append(list, send("foo", bad), send("foo:", none(), bad), send("ifTrue:", bad, blockOf()), send("foo", none(), none(), bad),
			returned(bad), kids(scope.SetTemp, bad), kids(scope.SetField, bad), kids(scope.List, bad), kids(scope.List, kids(scope.List, bad)),
			kids(scope.Cascade, send("foo", bad), send("bar", hole)), kids(scope.Cascade, send("foo", none()), bad), kids(scope.Cascade, bad, send("foo", hole)),
			kids(scope.Cascade, send("foo", none()), send("bar:", hole, bad)), blockOf(bad, none()), send("and:", none(), blockOf(bad, none())), kids(scope.SuperSend, bad), kids(scope.SuperSend, kids(scope.Self), bad))
		if bad.Kind != scope.Return {
			list = append(list, bad, blockOf(bad), send("and:", none(), blockOf(bad)), send("whileTrue", blockOf(bad)))
		}
	}
	list = append(list, kids(scope.Return), kids(scope.Return, none(), none()), kids(scope.SetTemp), kids(scope.SetTemp, none(), none()), kids(scope.SetField), kids(scope.SetField, none(), none()),
		kids(scope.Send), kids(scope.SuperSend), kids(scope.SuperSend, none()), kids(scope.Cascade), kids(scope.Cascade, send("foo", none()), send("bar", none())),
		kids(scope.Cascade, send("foo", none()), kids(scope.Send)), kids(scope.Cascade, kids(scope.SuperSend, kids(scope.Self)), send("foo", hole)), kids(scope.Cascade, send("foo", none()), kids(scope.SuperSend, hole)),
		kids(scope.List, kids(scope.Self)), kids(scope.List, kids(scope.Global)), kids(scope.List, kids(scope.Temp)), kids(scope.List, kids(scope.Block)),
		scope.Item{Kind: scope.Block, Num: -1}, send("and:", none(), scope.Item{Kind: scope.Block, Num: -1}), scope.Item{Kind: scope.Block, Slot: -1, Width: 1}, scope.Item{Kind: scope.Block, Slot: 1<<63 - 1, Width: 2}, scope.Item{Kind: scope.Block, Width: 1 << 62},
		scope.Item{Kind: scope.Temp, Slot: -1}, scope.Item{Kind: scope.Temp, Slot: 1 << 62}, scope.Item{Kind: scope.SetTemp, Slot: -1, Kids: []scope.Item{none()}})
	for _, i := range list {
		if out, e := Compile(scope.Code{Slots: 60, Body: []scope.Item{i}}); e != api.ErrForm || !reflect.DeepEqual(out, Out{}) {
			t.Errorf("P15.1: %+v: %+v, %d", i, out, e)
		}
	}
	if _, e := Compile(scope.Code{Body: []scope.Item{returned(none()), none()}}); e != api.ErrForm {
		t.Errorf("P15.1: a Return that isn't the last statement: %d", e)
	}
}

// spoil: changes something somewhere.
func (m *maker) spoil(list []scope.Item) {
	if len(list) == 0 {
		return
	}
	i := &list[m.Intn(len(list))]
	if len(i.Kids) > 0 && m.Intn(4) > 0 {
		m.spoil(i.Kids)
		return
	}
	odd := []int{-1, 0, 1, 5, 60, 255, 256, 1 << 40, -1 << 63, 1<<63 - 1}[m.Intn(10)]
	switch m.Intn(7) {
	case 0, 1:
		i.Kind = m.Intn(22) - 1
	case 2:
		i.Slot = odd
	case 3:
		i.Num = int64(odd)
	case 4:
		i.Width = odd
	case 5:
		i.Kids = i.Kids[:m.Intn(len(i.Kids)+1)]
	case 6:
		i.Kids = append(i.Kids, m.value(2))
	}
}

// Any Code is taken: what is answered is right, or an error alone.
func TestAny(t *testing.T) {
	told := map[api.Errno]int{}
	for seed := range int64(40000) {
		m := &maker{Rand: rand.New(rand.NewSource(seed))}
		c := m.code()
		for range 1 + m.Intn(3) {
			m.spoil(c.Body)
		}
		out, e := Compile(c)
		told[e]++
		stack, checked := code.Check(out.Code, len(out.Lits), c.Slots, 256)
		switch {
		case e == api.ErrForm || e == api.ErrSize:
			if !reflect.DeepEqual(out, Out{}) {
				t.Fatalf("P15.1: seed %d: %+v beside %d", seed, out, e)
			}
		case e != api.OK || checked != api.OK || stack != out.Stack:
			t.Fatalf("P15.2: seed %d: %+v: %d; %d, %d", seed, c, e, stack, checked)
		}
	}
	if told[api.OK] < 1000 || told[api.ErrForm] < 1000 || told[api.ErrSize] < 100 {
		t.Errorf("the Codes by chance tell too little: %v", told)
	}
}

// What is deeper than any method that can be read is compiled as others are.
func TestDeep(t *testing.T) {
	for name, c := range map[string]struct {
		in    scope.Item
		of    func(in scope.Item) scope.Item
		times int
		want  api.Errno
	}{
		"receivers":      {none(), func(in scope.Item) scope.Item { return send("foo", in) }, 5000, api.OK},
		"arguments, 200": {none(), func(in scope.Item) scope.Item { return send("+", none(), in) }, 199, api.OK},
		"arguments, 201": {none(), func(in scope.Item) scope.Item { return send("+", none(), in) }, 200, api.ErrSize},
		"assigned":       {none(), func(in scope.Item) scope.Item { return scope.Item{Kind: scope.SetTemp, Kids: []scope.Item{in}} }, 8000, api.OK},
		"Blocks":         {none(), func(in scope.Item) scope.Item { return blockOf(in) }, 3000, api.OK},
		"in line":        {none(), func(in scope.Item) scope.Item { return send("ifTrue:", none(), blockOf(in)) }, 2000, api.OK},
		"in line, ahead": {none(), func(in scope.Item) scope.Item { return send("or:", in, blockOf()) }, 2000, api.OK},
		"loops":          {none(), func(in scope.Item) scope.Item { return send("whileTrue", blockOf(in)) }, 2000, api.OK},
		"Cascades": {none(), func(in scope.Item) scope.Item {
			return scope.Item{Kind: scope.Cascade, Kids: []scope.Item{send("foo", in), send("bar", scope.Item{Kind: scope.Hole})}}
		}, 1500, api.OK},
		"Lists":            {scope.Item{Kind: scope.List}, func(in scope.Item) scope.Item { return scope.Item{Kind: scope.List, Kids: []scope.Item{in}} }, 1 << 16, api.OK},
		"receivers, many":  {none(), func(in scope.Item) scope.Item { return send("foo", in) }, 1 << 16, api.ErrSize},
		"arguments, many":  {none(), func(in scope.Item) scope.Item { return send("+", none(), in) }, 1 << 16, api.ErrSize},
		"assigned, many":   {none(), func(in scope.Item) scope.Item { return scope.Item{Kind: scope.SetTemp, Kids: []scope.Item{in}} }, 1 << 16, api.ErrSize},
		"Blocks, many":     {none(), func(in scope.Item) scope.Item { return blockOf(in) }, 1 << 16, api.ErrSize},
		"in line, many":    {none(), func(in scope.Item) scope.Item { return send("and:", in, blockOf()) }, 1 << 16, api.ErrSize},
		"loops, many":      {none(), func(in scope.Item) scope.Item { return send("whileTrue", blockOf(in)) }, 1 << 16, api.ErrSize},
		"what may not be":  {scope.Item{Kind: scope.Hole}, func(in scope.Item) scope.Item { return send("foo", in) }, 1 << 16, api.ErrForm},
		"Lists, not so":    {scope.Item{Kind: scope.Hole}, func(in scope.Item) scope.Item { return scope.Item{Kind: scope.List, Kids: []scope.Item{in}} }, 1 << 16, api.ErrForm},
		"a loop too great": {none(), func(in scope.Item) scope.Item { return send("whileFalse:", blockOf(in), blockOf()) }, 1 << 16, api.ErrSize},
	} {
		for range c.times {
			c.in = c.of(c.in)
		}
		out, e := Compile(scope.Code{Slots: 1, Body: []scope.Item{c.in}})
		if e != c.want {
			t.Errorf("P15.1: %s: %d, want %d", name, e, c.want)
		}
		if e == api.OK && (walked(out.Code) != out.Stack || c.times < 1<<15 && !isAsModel(out, c.in)) {
			t.Errorf("P15.1: %s: %d bytes, a stack of %d", name, len(out.Code), out.Stack)
		}
	}
}

func isAsModel(out Out, i scope.Item) bool {
	want, e := modelCompile(scope.Code{Slots: 1, Body: []scope.Item{i}})
	return e == api.OK && reflect.DeepEqual(out, want)
}

// P15.4

// roomy: items with all below them; lists have spare room, which holds the same everywhere.
func roomy(list []scope.Item) []scope.Item {
	out := make([]scope.Item, 0, len(list)+3)
	for _, i := range list {
		i.Kids = roomy(i.Kids)
		out = append(out, i)
	}
	for n := range 3 {
		out[:len(list)+3][len(list)+n] = scope.Item{Kind: 77, Name: "spare"}
	}
	return out
}

// whole: all of a list, the spare room, too.
func whole(list []scope.Item) []scope.Item {
	out := slices.Clone(list[:cap(list)])
	for n := range len(list) {
		out[n].Kids = whole(out[n].Kids)
	}
	return out
}

// spans: the places in memory of all lists of items, with their spare room.
func spans(t *testing.T, items []scope.Item, seen map[uintptr]bool) {
	t.Helper()
	size := unsafe.Sizeof(scope.Item{})
	base := uintptr(unsafe.Pointer(unsafe.SliceData(items)))
	for i := range cap(items) {
		place := base + uintptr(i)*size
		if seen[place] {
			t.Fatalf("P15.4: two lists share memory")
		}
		seen[place] = true
	}
	for _, i := range items {
		spans(t, i.Kids, seen)
	}
}

func TestMemory(t *testing.T) {
	for seed := range int64(3000) {
		m := &maker{Rand: rand.New(rand.NewSource(seed))}
		c := m.code()
		if seed%4 == 0 {
			m.spoil(c.Body)
		}
		c.Body = roomy(c.Body)
		before := whole(roomy(c.Body))
		first, e := Compile(c)
		if !reflect.DeepEqual(whole(c.Body), before) {
			t.Fatalf("P15.4: seed %d: what was handed in was changed", seed)
		}
		second, e2 := Compile(c)
		if !reflect.DeepEqual(first, second) || e != e2 {
			t.Fatalf("P15.4: seed %d: asked again: %+v, then %+v", seed, first, second)
		}
		seen := map[uintptr]bool{}
		spans(t, c.Body, seen)
		spans(t, first.Lits, seen)
		spans(t, second.Lits, seen)
		clear(first.Code[:cap(first.Code)])
		if e == api.OK && len(second.Code) > 0 && code.Return != second.Code[len(second.Code)-1] {
			t.Fatalf("P15.4: seed %d: two answers share their code", seed)
		}
	}
}
