package prim

import (
	"fmt"
	"math"
	"math/rand"
	"slices"
	"strings"
	"testing"

	"foundling/api"
	"foundling/boot"
	"foundling/find"
	"foundling/head"
	"foundling/sound"
)

// rooms: the same memory with other counts of free cells, and whether a call has changed one of them.
type rooms struct {
	*world
	free  map[int]*world
	count map[string]int
}

// newRooms: of memory as it is now.
func newRooms(w *world) *rooms {
	return &rooms{w, map[int]*world{}, map[string]int{}}
}

// at: the memory with so many free cells.
func (m *rooms) at(free int) *world {
	if m.free[free] == nil {
		m.free[free] = m.copied(free)
	}
	return m.free[free]
}

// enough: free cells for all that isn't as great as can be.
const enough = 6000

// call: in memory of so many free cells, is this what comes of it, and nothing else? The memory becomes what it was.
func (m *rooms) call(free, n int, in []byte, list []api.Word, want api.Word, done bool, e api.Errno, after *model) {
	m.t.Helper()
	w := m.at(free)
	p := &port{in: in}
	given := slices.Clone(list)
	got, isDone, told := Run(w.h, w.root, n, p, list...)
	what := fmt.Sprintf("%d of %x, with %d free", n, list, free)
	if got != want || isDone != done || told != e {
		m.t.Errorf("P22.1: %s: %x, %v, %d; want %x, %v, %d", what, got, isDone, told, want, done, e)
	}
	if len(p.put) != len(after.put) || len(p.put) > 0 && !slices.Equal(p.put[0], after.put[0]) || p.got != after.got {
		m.t.Errorf("P22.1: %s: Put %q, Take %d times; want %q, %d", what, p.put, p.got, after.put, after.got)
	}
	if !slices.Equal(list, given) {
		m.t.Errorf("Memory: %s: the list has changed", what)
	}
	isSame := sameHeap(w.h, m.h)
	if isSame != sameHeap(after.h, m.h) || !isSame && !sameHeap(w.h, after.h) {
		m.t.Errorf("P22.2: %s: memory is another one than it should be (the same as ahead: %v)", what, isSame)
	}
	if !isSame {
		delete(m.free, free)
	}
}

// tried: a call against the model's, with room enough, and with just as much as it needs, and one cell less.
func (m *rooms) tried(n int, in []byte, list ...api.Word) {
	m.t.Helper()
	idle := &model{world: m.world}
	after := &model{world: m.at(enough), in: in}
	want, done := after.run(n, list...)
	if !done {
		want, after = 0, idle
	}
	m.count[fmt.Sprint(n, done)]++
	m.call(enough, n, in, list, want, done, api.OK, after)
	need := after.h.Used() - m.h.Used()
	if need > 0 {
		m.call(need, n, in, list, want, true, api.OK, after)
		m.call(need-1, n, in, list, 0, false, api.ErrFull, idle)
		m.call(0, n, in, list, 0, false, api.ErrFull, idle)
	} else if len(list) > 0 && n%3 == int(list[0]>>1%3) {
		m.call(0, n, in, list, want, done, api.OK, after)
	}
}

// changes: may it change memory?
func changes(n int) bool {
	return n >= 22 && n <= 29 && n != 25 && n != 27 || n >= 52 && n <= 58
}

// all: the numbers of the table.
func all() []int {
	var out []int
	for n := range arities() {
		out = append(out, n)
	}
	slices.Sort(out)
	return out
}

// P22.3
func TestArity(t *testing.T) {
	want := arities()
	if len(want) != 40 {
		t.Fatalf("the test lists %d numbers", len(want))
	}
	for n := -300; n < 2000; n++ {
		args, isThere := want[n]
		if !isThere {
			args = -1
		}
		if got := Arity(n); got != args {
			t.Errorf("P22.3: Arity(%d) = %d, want %d", n, got, args)
		}
	}
	for _, n := range []int{math.MinInt, math.MinInt + 1, -1 << 32, 1<<32 + 1, 1<<32 + 60, math.MaxInt} {
		if got := Arity(n); got != -1 {
			t.Errorf("P22.3: Arity(%d) = %d, want -1", n, got)
		}
	}
}

// The chapter's examples.
func TestExamples(t *testing.T) {
	w := newWorld(t)
	abc := w.raw("String", "abc")
	for _, x := range []struct {
		n    int
		list []api.Word
		want api.Word
		done bool
	}{
		{1, []api.Word{7, 9}, 15, true}, {1, []api.Word{7, w.nothing()}, 0, false}, {25, []api.Word{abc, num(2)}, num(98), true},
	} {
		if got, done, e := Run(w.h, w.root, x.n, nil, x.list...); got != x.want || done != x.done || e != api.OK {
			t.Errorf("P22.1: %d of %x: %x, %v, %d", x.n, x.list, got, done, e)
		}
	}
}

// Numbers that are none, and lists of each count of words.
func TestNone(t *testing.T) {
	w, some := peopled(t)
	words := []api.Word{num(1), some[0], w.raw("String", "7"), w.classes["Array"]}
	m := newRooms(w)
	for n := -3; n < 130; n++ {
		for count := range 6 {
			for _, word := range words {
				m.tried(n, nil, slices.Repeat([]api.Word{word}, count)...)
			}
		}
	}
	for _, n := range []int{math.MinInt, -1 << 32, 1<<32 + 1, 1<<32 + 60, math.MaxInt} {
		for count := range 4 {
			m.tried(n, []byte{7}, slices.Repeat([]api.Word{num(1)}, count)...)
		}
	}
}

// P22.1: of numbers: all pairs near the limits, and by chance.
func TestNumbers(t *testing.T) {
	w, some := peopled(t)
	m := newRooms(w)
	list := append(numbers(), some[:9]...)
	list = append(list, w.strange()...)
	for _, n := range append(all()[:17], 20, 52) {
		for _, r := range list {
			for _, a := range list {
				if n == 52 {
					m.tried(n, nil, r)
					break
				}
				m.tried(n, nil, r, a)
			}
		}
	}
	r := rand.New(rand.NewSource(22))
	for range 20000 {
		one := func() api.Word { return num(r.Int63() >> r.Intn(63) * int64(1-2*r.Intn(2))) }
		m.tried(1+r.Intn(17), nil, one(), one())
		if t.Failed() {
			return
		}
	}
}

// P22.1: whatever takes one word, and two, of all that memory has.
func TestObjects(t *testing.T) {
	w, some := peopled(t)
	m := newRooms(w)
	list := append(append(slices.Clone(some), w.strange()...), num(0), num(1), num(3), num(-1), num(255))
	for _, n := range all()[17:] {
		for i, r := range list {
			switch arities()[n] {
			case 0:
				m.tried(n, nil, r)
				m.tried(n, []byte{0}, r)
				m.tried(n, []byte{255, 1}, r)
			case 1:
				for k, a := range list {
					if isFew := n == 20 || n == 24 || n == 25; isFew && (i+k)%5 > 0 && k < len(some) {
						continue
					}
					m.tried(n, nil, r, a)
				}
			}
			if t.Failed() {
				return
			}
		}
	}
	for _, n := range all()[17:] {
		if arities()[n] < 2 && (m.count[fmt.Sprint(n, true)] < 4 || m.count[fmt.Sprint(n, false)] < 4 && n != 61 && n != 20) {
			t.Errorf("the test tries too little of %d: %v", n, m.count)
		}
	}
}

// P22.1: whatever takes three.
func TestThree(t *testing.T) {
	w, some := peopled(t)
	m := newRooms(w)
	ends := []api.Word{num(0), num(1), num(2), num(3), num(4), num(5), num(-1), num(255), num(256), num(-255), num(api.MaxInt), num(api.MinInt)}
	for _, n := range []int{26, 58} {
		for i, r := range append(slices.Clone(some), w.strange()...) {
			for k, a := range append(slices.Clone(ends), some[0], some[6], 0, 2) {
				for j, b := range append(append(slices.Clone(ends), w.strange()...), some...) {
					if j > 20 && (i+j+k)%17 > 0 {
						continue
					}
					m.tried(n, nil, r, a, b)
				}
			}
			if t.Failed() {
				return
			}
		}
	}
}

// Counts, and texts, as great as can be, and one more.
func TestGreat(t *testing.T) {
	w := newWorld(t)
	great := w.copied(1 << 22)
	run := func(n int, list ...api.Word) (api.Word, bool) {
		t.Helper()
		free := great.h.Free()
		got, done, e := Run(great.h, w.root, n, nil, list...)
		if e != api.OK || !done && (got != 0 || great.h.Free() != free) {
			t.Errorf("P22.1: %d of %x: %x, %v, %d", n, list, got, done, e)
		}
		return got, done
	}
	for _, class := range []string{"Array", "String"} {
		for _, count := range []int64{api.MaxObject - 1, api.MaxObject, api.MaxObject + 1, api.MaxInt, 1 << 32} {
			p, done := run(24, w.classes[class], num(count))
			if done != (count <= api.MaxObject) {
				t.Errorf("P22.1: a new %s of %d: %v", class, count, done)
			}
			if done && (great.head(p).Size != int(count) || great.head(p).Class != w.classes[class]) {
				t.Errorf("P22.1: a new %s of %d: %v", class, count, great.head(p))
			}
		}
	}
	// A failure for another reason is told ahead of no room.
	small := w.copied(0)
	for _, count := range []int64{api.MaxObject + 1, -1} {
		if got, done, e := Run(small.h, w.root, 24, nil, w.classes["Array"], num(count)); got != 0 || done || e != api.OK {
			t.Errorf("P22.1: without room, of %d: %x, %v, %d", count, got, done, e)
		}
	}
	half, _ := run(24, w.classes["String"], num(api.MaxObject/2))
	for _, count := range []int64{api.MaxObject/2 - 1, api.MaxObject / 2, api.MaxObject/2 + 1, 0, api.MaxObject} {
		other, _ := run(24, w.classes["String"], num(count))
		great.h.PutByte(other, max(0, int(count)-1), 9)
		for _, list := range [][]api.Word{{half, other}, {other, half}} {
			p, done := run(57, list...)
			if done != (count <= api.MaxObject/2) || done && great.head(p).Size != api.MaxObject/2+int(count) {
				t.Errorf("P22.1: together %d: %v", api.MaxObject/2+count, done)
			}
			if !done {
				// Nor is it no room that is told.
				less, _ := great.h.Alloc(w.classes["Array"], head.Slots, great.h.Free()-2-8, w.nothing())
				run(57, list...)
				great = great.refilled(less)
			}
		}
	}
	for _, count := range []int64{api.MaxText - 1, api.MaxText, api.MaxText + 1, 70000} {
		p, _ := run(24, w.classes["S"], num(count))
		symbol, done := run(53, p)
		if done != (count <= api.MaxText) || done && great.text(symbol) != strings.Repeat("\x00", int(count)) {
			t.Errorf("P22.1: the symbol of %d bytes: %v", count, done)
		}
		if again, _ := run(53, p); again != symbol {
			t.Errorf("P22.1: the symbol of %d bytes is two", count)
		}
		if again, _ := run(53, symbol); done && again != symbol {
			t.Errorf("P22.1: the symbol of a symbol is another one")
		}
	}
	great.sound("great things")
	full := great.copied(0)
	p, _ := run(24, w.classes["S"], num(api.MaxText+1))
	if full.h.Has(p) {
		t.Fatalf("the test has no room to be without")
	}
	full = great.copied(0)
	if got, done, e := Run(full.h, w.root, 53, nil, p); got != 0 || done || e != api.OK {
		t.Errorf("P22.1: without room, a text too long for a symbol: %x, %v, %d", got, done, e)
	}
}

// refilled: without its last object.
func (w *world) refilled(last api.Word) *world {
	w.t.Helper()
	words := w.h.Words()
	other := &world{w.t, nil, w.root, w.classes}
	at, _ := head.At(last)
	var e api.Errno
	if other.h, e = loaded(w.h.Cells(), w.h.Last(), words[:at-2]); e != api.OK {
		w.t.Fatalf("heap.Load: %d", e)
	}
	return other
}

// No hash is left: it fails, and so it does each time; what has one keeps it.
func TestHashes(t *testing.T) {
	w, some := peopled(t)
	p, q := some[15], some[16]
	h, e := loaded(w.h.Used()+9, 1<<24-2, w.h.Words())
	if e != api.OK {
		t.Fatalf("heap.Load: %d", e)
	}
	for range 2 {
		if got, done, e := Run(h, w.root, 22, nil, p); got != num(1<<24-1) || !done || e != api.OK {
			t.Errorf("P22.1: the last hash: %x, %v, %d", got, done, e)
		}
		before := h.Clone()
		if got, done, e := Run(h, w.root, 22, nil, q); got != 0 || done || e != api.OK || !h.Same(before) {
			t.Errorf("P22.1: no hash: %x, %v, %d", got, done, e)
		}
	}
	if got, done, e := Run(h, w.root, 29, nil, p); !done || e != api.OK {
		t.Errorf("P22.1: a new one like it: %x, %v, %d", got, done, e)
	} else if d, _ := h.Head(got); d.Hash != 0 {
		t.Errorf("P22.1: a new one like it has the hash %d", d.Hash)
	}
}

// Without a Port no bytes go, and none come: it fails.
func TestNoPort(t *testing.T) {
	w := newWorld(t)
	for n, r := range map[int]api.Word{60: w.raw("String", "abc"), 61: num(1)} {
		before := w.h.Clone()
		if got, done, e := Run(w.h, w.root, n, nil, r); got != 0 || done || e != api.OK || !w.h.Same(before) {
			t.Errorf("P22.1: %d without a Port: %x, %v, %d", n, got, done, e)
		}
	}
}

// P22.1, 60 and 61: in one call, also of none; byte by byte, up to the last.
func TestPort(t *testing.T) {
	w := newWorld(t)
	every := make([]byte, 256)
	for i := range every {
		every[i] = byte(i)
	}
	for _, s := range []string{"", "a", "a\x00b", string(every), strings.Repeat("x", 5000)} {
		for _, class := range []string{"String", "S", "Y6"} {
			p := &port{}
			r := w.raw(class, s)
			if got, done, e := Run(w.h, w.root, 60, p, r); got != r || !done || e != api.OK || len(p.put) != 1 || string(p.put[0]) != s || p.got != 0 {
				t.Errorf("P22.1: 60 of %d bytes: %x, %v, %d, %q", len(s), got, done, e, p.put)
			}
			if w.text(r) != s {
				t.Errorf("Memory: what a Port does with bytes shows in memory")
			}
		}
	}
	for i := range 256 {
		p := &port{in: []byte{byte(i), 7}}
		if got, done, e := Run(w.h, w.root, 61, p, w.nothing()); got != num(int64(i)) || !done || e != api.OK || p.got != 1 || len(p.put) > 0 {
			t.Errorf("P22.1: 61, %d: %x, %v, %d", i, got, done, e)
		}
	}
}

// P22.2: one primitive behind the other, by chance; only what a primitive has made is changed by 26, 28 and 29. All along against the model.
func TestChance(t *testing.T) {
	told := map[int]int{}
	for seed := range int64(40) {
		r := rand.New(rand.NewSource(seed))
		c := newChance(t, r)
		for step := range 1500 {
			if c.h.Free() < 2000 {
				break
			}
			n := all()[r.Intn(len(all()))]
			list, isReady := c.list(n)
			if !isReady {
				continue
			}
			before := c.h.Clone()
			m := &model{world: c.world}
			want, isDone := m.run(n, list...)
			got, done, e := Run(c.h, c.root, n, &port{}, list...)
			if e != api.OK || got != want && isDone || done != isDone || done && m.isOwn && !c.h.Same(m.h) || !(done && m.isOwn) && !c.h.Same(before) || !done && got != 0 {
				t.Fatalf("P22.1: seed %d: %d of %x: %x, %v, %d; want %x, %v", seed, n, list, got, done, e, want, isDone)
			}
			if done {
				told[n]++
			}
			if done && got&1 == 0 && !before.Has(got) && n != 53 {
				c.made = append(c.made, got)
			}
			if step%40 == 0 {
				c.sound(fmt.Sprintf("%d of %x", n, list))
			}
		}
		c.sound("primitives by chance")
		if t.Failed() {
			return
		}
	}
	for _, n := range all() {
		if told[n] < 20 {
			t.Errorf("the test tries too little of %d: %v", n, told)
		}
	}
}

// chance: memory, what may be handed in, and what primitives have made.
type chance struct {
	*world
	r          *rand.Rand
	some, made []api.Word
}

func newChance(t *testing.T, r *rand.Rand) *chance {
	w, some := peopled(t)
	return &chance{w, r, some, nil}
}

func (c *chance) one() api.Word {
	switch c.r.Intn(5) {
	case 0, 1:
		return num(int64(c.r.Intn(5)))
	case 2:
		if len(c.made) > 0 {
			return c.made[c.r.Intn(len(c.made))]
		}
	}
	return c.some[c.r.Intn(len(c.some))]
}

// list: for a number; false: nothing was made yet that it may change.
func (c *chance) list(n int) ([]api.Word, bool) {
	var list []api.Word
	for range arities()[n] + 1 {
		list = append(list, c.one())
	}
	switch n {
	case 24:
		list[0] = c.classes[[]string{"Array", "String", "L", "S", "Z3", "Z4", "P"}[c.r.Intn(7)]]
	case 58:
		list[0] = c.some[c.r.Intn(40)]
	case 26, 28, 29:
		if len(c.made) == 0 {
			return nil, false
		}
		for i := range min(2, len(list)) {
			if i == 0 || n == 28 {
				list[i] = c.made[c.r.Intn(len(c.made))]
			}
		}
	}
	return list, true
}

// P22.2: whatever is done to what a primitive has made, and whatever else is done: the memory stays sound.
func TestSound(t *testing.T) {
	w, some := peopled(t)
	list := append(append(slices.Clone(some), w.strange()...), num(0), num(3), num(255))
	for _, n := range all() {
		if n == 26 || n == 28 || n == 29 || !changes(n) {
			continue
		}
		for i, r := range list {
			for k, a := range list {
				if arities()[n] == 0 && k > 0 || (i+k)%4 > 0 && n != 24 {
					continue
				}
				c := &world{t, w.h.Clone(), w.root, w.classes}
				words := []api.Word{r, a, num(2)}[:arities()[n]+1]
				if _, done, _ := Run(c.h, c.root, n, nil, words...); done {
					c.sound(fmt.Sprintf("%d of %x", n, words))
				}
			}
		}
	}
}

// Ways up end at nil, whatever words that has itself.
func TestNilOfWords(t *testing.T) {
	w := newWorld(t)
	p := w.alloc("P", head.Fields, num(1), num(2), num(3))
	q := w.alloc("P", head.Fields, num(4), num(5), num(6))
	for _, name := range shutNames() {
		c := &world{t, w.h.Clone(), w.root, w.classes}
		old := c.nothing()
		c.h.Swap(old, c.alloc("UndefinedObject", head.Fields, c.classes[name]))
		c.h.SetClass(old, c.classes["Empty"])
		c.h.Put(c.classes["UndefinedObject"], sound.Format, num(4))
		c.sound("a nil of one word")
		for n, list := range map[int][]api.Word{23: {c.classes["P"]}, 28: {p, q}, 29: {p}} {
			if got, done, e := Run(c.h, c.root, n, nil, list...); got == 0 || !done || e != api.OK {
				t.Errorf("P22.1: %d with a nil of one word, %s: %x, %v, %d", n, name, got, done, e)
			}
		}
		for n, list := range map[int][]api.Word{28: {c.nothing(), c.nothing()}, 29: {c.nothing()}} {
			if got, done, e := Run(c.h, c.root, n, nil, list...); got != 0 || done || e != api.OK {
				t.Errorf("P22.1: %d of a nil of one word: %x, %v, %d", n, got, done, e)
			}
		}
	}
}

// A class that was found by its name makes objects that find knows.
func TestMade(t *testing.T) {
	w := newWorld(t)
	for _, name := range []string{"Object", "P", "Q", "Message", "Mes", "Semaphore", "Sem", "Empty", "Z0"} {
		p, done, e := Run(w.h, w.root, 23, nil, w.classes[name])
		format := int(w.word(w.classes[name], sound.Format)) >> 3
		if !done || e != api.OK || find.ClassOf(w.h, w.root, p) != w.classes[name] || w.head(p).Kind != head.Fields || w.head(p).Size != format {
			t.Errorf("P22.1: a new %s: %x, %v, %d, %v", name, p, done, e, w.head(p))
		}
		for _, x := range w.list(p) {
			if x != w.nothing() {
				t.Errorf("P22.1: a new %s has %x", name, x)
			}
		}
	}
	for _, name := range append(shutNames()[:11], "Proc", "Array", "String", "L", "S", "Z1", "Z2", "Z3") {
		if p, done, e := Run(w.h, w.root, 23, nil, w.classes[name]); p != 0 || done || e != api.OK {
			t.Errorf("P22.1: a new %s: %x, %v, %d", name, p, done, e)
		}
	}
	w.sound("new objects")
	if w.word(w.special(sound.Schedule), boot.Timer) != w.nothing() {
		t.Errorf("the schedule has changed")
	}
}
