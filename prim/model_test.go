package prim

import (
	"bytes"
	"math/big"
	"slices"
	"strconv"
	"strings"

	"foundling/api"
	"foundling/head"
	"foundling/heap"
	"foundling/sound"
)

// model: the table, as the chapter has it; what changes does so in memory of its own, which has room enough.
type model struct {
	*world
	isOwn bool
	in    []byte // what Take has
	put   [][]byte
	got   int // how often Take was asked
}

// own: ahead of a change.
func (m *model) own() {
	if !m.isOwn {
		m.world = &world{m.t, m.h.Clone(), m.root, m.classes}
		m.isOwn = true
	}
}

// up: a class, and those above it.
func (m *model) up(class api.Word) []api.Word {
	var out []api.Word
	for class != m.nothing() && m.h.Has(class) {
		out = append(out, class)
		class = m.word(class, sound.Super)
	}
	return out
}

// isOne: is a class one of these names, or below?
func (m *model) isOne(class api.Word, names ...string) bool {
	for _, c := range m.up(class) {
		for _, name := range names {
			if c == m.classes[name] {
				return true
			}
		}
	}
	return false
}

func (m *model) isObject(p api.Word) bool { return m.h.Has(p) }

func (m *model) isBytes(p api.Word) bool {
	return m.isObject(p) && m.head(p).Kind == head.Raw && m.isOne(m.classOf(p), "String")
}

func (m *model) isList(p api.Word) bool {
	return m.isObject(p) && m.head(p).Kind == head.Slots && m.isOne(m.classOf(p), "Array")
}

func (m *model) isClass(p api.Word) bool {
	return m.isObject(p) && m.classOf(m.classOf(p)) == m.classes["Metaclass"]
}

func (m *model) isOpen(p api.Word) bool {
	return m.isObject(p) && !m.isOne(m.classOf(p), shutNames()...)
}

func (m *model) truth(is bool) (api.Word, bool) {
	if is {
		return m.special(sound.True), true
	}
	return m.special(sound.False), true
}

func (m *model) made(s string) (api.Word, bool) {
	if len(s) > api.MaxObject {
		return 0, false
	}
	m.own()
	return m.raw("String", s), true
}

// run: what is answered.
func (m *model) run(n int, list ...api.Word) (api.Word, bool) {
	if args, isThere := arities()[n]; !isThere || len(list) != args+1 {
		return 0, false
	}
	list = append(slices.Clone(list), 0, 0)
	r, a, b := list[0], list[1], list[2]
	switch {
	case n <= 17:
		return m.numbers(n, r, a)
	case n <= 29:
		return m.objects(n, r, a, b)
	case n <= 36:
		return m.classed(n, r, a)
	}
	return m.texts(n, r, a, b)
}

// arities: of each number.
func arities() map[int]int {
	out := map[int]int{}
	for args, list := range map[int][]int{
		0: {21, 22, 23, 27, 29, 35, 36, 52, 53, 54, 59, 60, 61},
		1: {1, 2, 3, 4, 5, 6, 7, 8, 9, 10, 11, 12, 13, 14, 15, 16, 17, 20, 24, 25, 28, 34, 55, 56, 57},
		2: {26, 58},
	} {
		for _, n := range list {
			out[n] = args
		}
	}
	return out
}

func (m *model) numbers(n int, r, a api.Word) (api.Word, bool) {
	if r&1 == 0 || a&1 == 0 {
		return 0, false
	}
	x, y := int64(r)>>1, int64(a)>>1
	switch n {
	case 12:
		return m.truth(x < y)
	case 13:
		return m.truth(x > y)
	case 14:
		return m.truth(x <= y)
	case 15:
		return m.truth(x >= y)
	case 16:
		return m.truth(x == y)
	case 17:
		return m.truth(x != y)
	}
	if n >= 4 && n <= 7 && y == 0 {
		return 0, false
	}
	z := reckoned(n, big.NewInt(x), big.NewInt(y))
	if z.Cmp(big.NewInt(api.MaxInt)) > 0 || z.Cmp(big.NewInt(api.MinInt)) < 0 {
		return 0, false
	}
	return num(z.Int64()), true
}

// reckoned: of numbers as long as need be.
func reckoned(n int, x, y *big.Int) *big.Int {
	z := new(big.Int)
	switch n {
	case 1:
		return z.Add(x, y)
	case 2:
		return z.Sub(x, y)
	case 3:
		return z.Mul(x, y)
	case 6:
		return z.Quo(x, y)
	case 7:
		return z.Rem(x, y)
	case 8:
		return z.And(x, y)
	case 9:
		return z.Or(x, y)
	case 10:
		return z.Xor(x, y)
	case 11:
		shift := y.Int64()
		if shift < 0 {
			return z.Rsh(x, uint(min(-shift, 100)))
		}
		return z.Lsh(x, uint(min(shift, 200)))
	}
	quo, rem := z.QuoRem(x, y, new(big.Int))
	if rem.Sign()*y.Sign() < 0 {
		quo.Sub(quo, big.NewInt(1))
		rem.Add(rem, y)
	}
	if n == 4 {
		return quo
	}
	return rem
}

func (m *model) objects(n int, r, a, b api.Word) (api.Word, bool) {
	switch n {
	case 20:
		return m.truth(r == a)
	case 21:
		return m.classOf(r), m.classOf(r) != 0
	case 22:
		if r&1 == 1 {
			return r, true
		}
		m.own()
		tag, e := m.h.Tag(r)
		return num(int64(tag)), e == api.OK
	case 23, 24:
		return m.fresh(n, r, a)
	case 25, 26, 27:
		return m.place(n, r, a, b)
	case 28:
		isFields := m.head(r).Kind == head.Fields || m.head(a).Kind == head.Fields
		if !m.isOpen(r) || !m.isOpen(a) || m.classOf(r) != m.classOf(a) && isFields {
			return 0, false
		}
		m.own()
		m.h.Swap(r, a)
		return r, true
	}
	if !m.isOpen(r) {
		return 0, false
	}
	m.own()
	d := m.head(r)
	p, _ := m.h.Alloc(d.Class, d.Kind, d.Size, 1)
	for i := range d.Size {
		if d.Kind == head.Raw {
			x, _ := m.h.Byte(r, i)
			m.h.PutByte(p, i, x)
		} else {
			m.h.Put(p, i, m.word(r, i))
		}
	}
	return p, true
}

// fresh: 23 and 24.
func (m *model) fresh(n int, r, a api.Word) (api.Word, bool) {
	// What isn't the instance of its own class isn't a class of which there are objects.
	if !m.isClass(r) || m.word(m.classOf(r), sound.Name) != r {
		return 0, false
	}
	format, count := int64(m.word(r, sound.Format))>>1, int64(a)>>1
	if n == 23 {
		if m.isOne(r, shutNames()...) && !m.isOne(r, "Semaphore") || format%4 != 0 {
			return 0, false
		}
		m.own()
		p, _ := m.h.Alloc(r, head.Fields, int(format/4), m.nothing())
		return p, true
	}
	if a&1 == 0 || count < 0 || count > api.MaxObject || format%4 == 0 || !m.isOne(r, "Array", "String") || m.isOne(r, "Symbol") {
		return 0, false
	}
	m.own()
	p, e := m.h.Alloc(r, int(format%4), int(count), m.nothing())
	if e != api.OK {
		m.t.Fatalf("the model has no room: %d", e)
	}
	return p, true
}

// place: 25 to 27.
func (m *model) place(n int, r, a, b api.Word) (api.Word, bool) {
	isList, isBytes, size := m.isList(r), m.isBytes(r), int64(m.head(r).Size)
	if !isList && !isBytes {
		return 0, false
	}
	if n == 27 {
		return num(size), true
	}
	i := int64(a) >> 1
	if a&1 == 0 || i < 1 || i > size {
		return 0, false
	}
	at := int(i - 1)
	switch {
	case n == 25 && isList:
		return m.word(r, at), true
	case n == 25:
		x, _ := m.h.Byte(r, at)
		return num(int64(x)), true
	case isList:
		if b&1 == 0 && !m.isObject(b) { // else memory wouldn't be sound
			return 0, false
		}
		m.own()
		m.h.Put(r, at, b)
		return b, true
	}
	x := int64(b) >> 1
	if m.isOne(m.classOf(r), "Symbol") || b&1 == 0 || x < 0 || x > 255 {
		return 0, false
	}
	m.own()
	m.h.PutByte(r, at, byte(x))
	return b, true
}

func (m *model) classed(n int, r, a api.Word) (api.Word, bool) {
	switch {
	case n == 34 && (m.classOf(r) == 0 || !m.isObject(a) || m.classOf(a) != m.classes["Symbol"]):
		return 0, false
	case n == 34:
		isThere := false
		for _, c := range m.up(m.classOf(r)) {
			list := m.list(m.word(c, sound.Methods))
			for i := 0; i < len(list); i += 2 {
				isThere = isThere || list[i] == a
			}
		}
		return m.truth(isThere)
	case n == 35 && m.isClass(r):
		return m.word(r, sound.Name), true
	case n == 36 && (m.isClass(r) || m.isObject(r) && m.classOf(r) == m.classes["Metaclass"]):
		return m.word(r, sound.Super), true
	}
	return 0, false
}

func (m *model) texts(n int, r, a, b api.Word) (api.Word, bool) {
	if n == 61 {
		m.got++
		if len(m.in) == 0 {
			return m.nothing(), true
		}
		return num(int64(m.in[0])), true
	}
	if n == 52 {
		if r&1 == 0 {
			return 0, false
		}
		return m.made(strconv.FormatInt(int64(r)>>1, 10))
	}
	if !m.isBytes(r) || n >= 55 && n <= 57 && !m.isBytes(a) {
		return 0, false
	}
	s := m.text(r)
	switch n {
	case 53:
		if len(s) > api.MaxText {
			return 0, false
		}
		m.own()
		return m.symbol(s), true
	case 54:
		return m.made(s)
	case 55:
		return m.truth(bytes.Compare([]byte(s), []byte(m.text(a))) < 0)
	case 56:
		return m.truth(s == m.text(a))
	case 57:
		return m.made(s + m.text(a))
	case 58:
		from, to := int64(a)>>1, int64(b)>>1
		if a&1 == 0 || b&1 == 0 || from < 1 || from-1 > to || to > int64(len(s)) {
			return 0, false
		}
		return m.made(s[from-1 : to])
	case 59:
		x, isNumber := new(big.Int).SetString(s, 10)
		if !isNumber || strings.ContainsAny(s, "+_") || x.Cmp(big.NewInt(api.MaxInt)) > 0 || x.Cmp(big.NewInt(api.MinInt)) < 0 {
			return 0, false
		}
		return num(x.Int64()), true
	}
	m.put = append(m.put, []byte(s))
	return r, true
}

// port: notes what comes to it.
type port struct {
	in  []byte
	put [][]byte
	got int
}

func (p *port) Put(b ...byte) {
	p.put = append(p.put, slices.Clone(b))
	for i := range b {
		b[i] ^= 0xFF // whatever a port does with them
	}
}

func (p *port) Take() (byte, bool) {
	p.got++
	if len(p.in) == 0 {
		return 0, false
	}
	return p.in[0], true
}

// sameHeap: have they the same words, however many cells are free?
func sameHeap(a, b *heap.Heap) bool {
	return slices.Equal(a.Words(), b.Words()) && a.Last() == b.Last()
}
