package play

import (
	"fmt"
	"math/rand"
	"strings"
)

// The sources here are written together with what they mean: each part is a text, and a function of Go that does what it says.

// value: a part that is a number.
type value struct {
	text string
	do   func(w *world) int64
}

// deedOf: a part that is a statement.
type deedOf struct {
	text string
	do   func(w *world)
}

// world: what a source sees, and what is seen of it.
type world struct {
	vars   map[string]int64
	fields [2]int64 // a P's
	input  []byte
	queue  []func(w *world) // those that wait to run, behind the one that runs
	lines  []string
	count  int64
	saves  int
	loaded int // which of the saves answers true, as its snapshot was loaded; 0: none
}

// over: ends a process, by a fault.
type faulted struct{}

func (w *world) show(s string) { w.lines = append(w.lines, `out "`+s+`"`) }

func (w *world) fault(s string) {
	w.lines = append(w.lines, `fault "`+s+`"`)
	panic(faulted{})
}

// sent: so many messages, or jumps back.
func (w *world) sent(n int64) { w.count += n }

// meantClasses: the classes and methods that parts ask for.
const meantClasses = `Object subclass: #P fields: 'a b'!
P subclass: #Q fields: ''!
P methods! a: x a := x. b := x + a! a ^a! b ^b! twice ^self a * 2! doesNotUnderstand: x ^x arguments at: 1! !
Q methods! a ^super a + 1! twice ^super twice! !
P class methods! with: x ^self new a: x; value! !
Object methods! value ^self! fact: n n < 2 ifTrue: [^1]. ^(self fact: n - 1) * n! pick: n [:x | x < 4 ifTrue: [^x + 1]] value: n. ^0! each: n with: c | i | i := 0. [i < n] whileTrue: [i := i + 1. c value: i]. ^n! !
Block methods! not ^self value == false! !
`

// maker: makes parts by chance.
type maker struct {
	r     *rand.Rand
	depth int
	loops int
	isIn  bool // in a block that runs by itself, where nothing may be waited for
}

func (k *maker) deeper() func() {
	k.depth++
	return func() { k.depth-- }
}

// number: a part by chance.
func (k *maker) number() value {
	defer k.deeper()()
	n := k.r.Intn(17)
	if k.depth > 5 {
		n %= 3
	}
	switch n {
	case 0:
		c := []int64{0, 1, 2, 3, 5, 127, 128, -128, -129, 255, 1000, 1<<62 - 1, -1<<62 + 1}[k.r.Intn(13)]
		return value{fmt.Sprint(c), func(*world) int64 { return c }}
	case 1, 2:
		name := []string{"x", "y", "z"}[k.r.Intn(3)]
		return value{name, func(w *world) int64 { return w.vars[name] }}
	case 3, 4, 5, 6:
		return k.sum()
	case 7:
		c, a, b := k.truth(), k.number(), k.number()
		text := "(" + c.text + " ifTrue: [" + a.text + "] ifFalse: [" + b.text + "])"
		return value{text, func(w *world) int64 {
			if c.do(w) != 0 {
				return a.do(w)
			}
			return b.do(w)
		}}
	case 8:
		c, a, b := k.truth(), k.number(), k.number()
		text := "(" + c.text + " ifFalse: [" + a.text + "] ifTrue: [" + b.text + "])"
		return value{text, func(w *world) int64 {
			if c.do(w) == 0 {
				return a.do(w)
			}
			return b.do(w)
		}}
	case 9:
		return k.block()
	case 10:
		n := k.r.Int63n(6)
		return value{fmt.Sprintf("(self fact: %d)", n), func(w *world) int64 {
			out := int64(1)
			for i := n; i > 1; i-- {
				out *= i
				w.sent(4)
			}
			w.sent(2)
			return out
		}}
	case 11:
		n := k.r.Int63n(8)
		return value{fmt.Sprintf("(self pick: %d)", n), func(w *world) int64 {
			w.sent(3) // pick:, value:, <
			if n < 4 {
				w.sent(1)
				return n + 1
			}
			return 0
		}}
	case 12:
		a := k.number()
		return value{"(P new zork: " + a.text + ")", func(w *world) int64 { w.sent(1); return w.after(3, a.do(w)) }}
	case 13:
		return value{"(self perform: #fact: all: #(1))", func(w *world) int64 { return w.after(2, 1) }}
	case 14:
		return k.object()
	case 15:
		return value{"self count", func(w *world) int64 { w.sent(1); return w.count - 1 }}
	}
	return k.saving()
}

// after: so many messages, a number.
func (w *world) after(n, x int64) int64 {
	w.sent(n)
	return x
}

// fits: what comes out of two numbers, if it is one; else the first one, as B's methods answer themselves.
func fits(a, b int64, op string) int64 {
	const greatest, least = 1<<62 - 1, -1 << 62
	c := a + b
	if op == "-" {
		c = a - b
	}
	if op == "*" {
		if a != 0 && (a*b/a != b) {
			return a
		}
		c = a * b
	}
	if c > greatest || c < least {
		return a
	}
	return c
}

// sum: of two numbers.
func (k *maker) sum() value {
	a, b := k.number(), k.number()
	op := []string{"+", "-", "*"}[k.r.Intn(3)]
	return value{"(" + a.text + " " + op + " " + b.text + ")", func(w *world) int64 {
		x, y := a.do(w), b.do(w)
		return w.after(1, fits(x, y, op))
	}}
}

// truth: 1 or 0.
func (k *maker) truth() value {
	defer k.deeper()()
	is := func(b bool) int64 {
		if b {
			return 1
		}
		return 0
	}
	n := k.r.Intn(6)
	if k.depth > 5 {
		n = 5
	}
	switch n {
	case 0, 1:
		a, b := k.number(), k.number()
		return value{"(" + a.text + " < " + b.text + ")", func(w *world) int64 {
			x, y := a.do(w), b.do(w)
			return w.after(1, is(x < y))
		}}
	case 2:
		a, b := k.number(), k.number()
		return value{"(" + a.text + " == " + b.text + ")", func(w *world) int64 {
			x, y := a.do(w), b.do(w)
			return w.after(1, is(x == y))
		}}
	case 3:
		a, b := k.truth(), k.truth()
		return value{"(" + a.text + " and: [" + b.text + "])", func(w *world) int64 {
			if a.do(w) == 0 {
				return 0
			}
			return b.do(w)
		}}
	case 4:
		a, b := k.truth(), k.truth()
		return value{"(" + a.text + " or: [" + b.text + "])", func(w *world) int64 {
			if a.do(w) == 1 {
				return 1
			}
			return b.do(w)
		}}
	}
	b := k.r.Intn(2) == 0
	return value{fmt.Sprint(b), func(*world) int64 { return is(b) }}
}

// block: of a parameter, which no variable of the source is.
func (k *maker) block() value {
	k.loops++
	name := fmt.Sprintf("v%d", k.loops)
	a := k.number()
	b := k.number()
	return value{"([:" + name + " | " + name + " + " + b.text + "] value: " + a.text + ")", func(w *world) int64 {
		x := a.do(w)
		w.sent(1)
		y := b.do(w)
		return w.after(1, fits(x, y, "+"))
	}}
}

// object: a P, or a Q, that is asked.
func (k *maker) object() value {
	a := k.number()
	what := k.r.Intn(5)
	text := []string{"(P new a: %s; a)", "(Q new a: %s; a)", "(P new a: %s; twice)", "(Q new a: %s; twice)", "(P with: %s) b"}[what]
	return value{fmt.Sprintf(text, a.text), func(w *world) int64 {
		w.sent(1) // new, or with:
		if what == 4 {
			// The argument stands ahead of with:, whose new is sent within.
			w.sent(-1)
			x := a.do(w)
			return w.after(6, fits(x, x, "+"))
		}
		x := a.do(w)
		w.sent(2) // a:, and its +
		switch what {
		case 0:
			return w.after(1, x)
		case 1:
			return w.after(3, fits(x, 1, "+"))
		case 2:
			return w.after(3, fits(x, 2, "*"))
		}
		// twice, and that above, a, and that above, + and *
		return w.after(6, fits(fits(x, 1, "+"), 2, "*"))
	}}
}

// saving: a snapshot, which answers false to who takes it.
func (k *maker) saving() value {
	return value{"(self save ifTrue: [1] ifFalse: [2])", func(w *world) int64 {
		w.sent(1)
		w.saves++
		if w.saves == w.loaded {
			w.lines = nil
			return 1
		}
		w.lines = append(w.lines, "saved")
		return 2
	}}
}

// statement: a part by chance.
func (k *maker) statement() deedOf {
	defer k.deeper()()
	n := k.r.Intn(12)
	if k.depth > 4 {
		n %= 5
	}
	switch n {
	case 0, 1:
		a := k.number()
		return deedOf{a.text + " digits out", func(w *world) { x := a.do(w); w.sent(1); w.show(fmt.Sprint(x)); w.sent(1) }}
	case 2:
		k.loops++
		s := fmt.Sprintf("t%d", k.loops)
		return deedOf{"'" + s + "' out", func(w *world) { w.show(s); w.sent(1) }}
	case 3, 4:
		name := []string{"x", "y", "z"}[k.r.Intn(3)]
		a := k.number()
		return deedOf{name + " := " + a.text, func(w *world) { w.vars[name] = a.do(w) }}
	case 5:
		c, s := k.truth(), k.statements(2)
		return deedOf{c.text + " ifTrue: [" + s.text + "]", func(w *world) {
			if c.do(w) != 0 {
				s.do(w)
			}
		}}
	case 6, 7:
		return k.loop()
	case 8:
		s := k.statements(2)
		return deedOf{"[" + s.text + "] value", func(w *world) { w.sentAround(s) }}
	case 9:
		return k.input()
	case 10:
		return k.each()
	}
	return k.process()
}

// sentAround: a message behind whose send the rest is done; only how many there are shows.
func (w *world) sentAround(s deedOf) {
	w.sent(1)
	s.do(w)
}

func (k *maker) statements(most int) deedOf {
	var list []deedOf
	var texts []string
	for range 1 + k.r.Intn(most) {
		s := k.statement()
		list = append(list, s)
		texts = append(texts, s.text)
	}
	return deedOf{strings.Join(texts, ". "), func(w *world) {
		for _, s := range list {
			s.do(w)
		}
	}}
}

// loop: some times.
func (k *maker) loop() deedOf {
	k.loops++
	name, times := fmt.Sprintf("k%d", k.loops), k.r.Int63n(4)
	s := k.statements(2)
	text := fmt.Sprintf("%s := 0. [%s < %d] whileTrue: [%s. %s := %s + 1]", name, name, times, s.text, name, name)
	if k.r.Intn(2) == 0 {
		text = fmt.Sprintf("%s := 0. [%d == %s] whileFalse: [%s. %s := %s + 1]", name, times, name, s.text, name, name)
	}
	return deedOf{text, func(w *world) {
		for range times {
			w.sent(1)
			s.do(w)
			w.sent(2)
		}
		w.sent(1)
	}}
}

// input: a byte, or none.
func (k *maker) input() deedOf {
	return deedOf{"x := self in. x == nil ifTrue: ['none' out. x := 0]", func(w *world) {
		w.sent(2)
		if len(w.input) == 0 {
			w.show("none")
			w.sent(1)
			w.vars["x"] = 0
			return
		}
		w.vars["x"], w.input = int64(w.input[0]), w.input[1:]
	}}
}

// each: a block is handed on.
func (k *maker) each() deedOf {
	k.loops++
	n := k.r.Int63n(4)
	s := k.statements(2)
	text := fmt.Sprintf("self each: %d with: [:v%d | %s]", n, k.loops, s.text)
	return deedOf{text, func(w *world) {
		w.sent(1)
		for range n {
			w.sent(3) // <, +, value:
			s.do(w)
			w.sent(1)
		}
		w.sent(1)
	}}
}

// process: one that runs behind all that wait to run, or what lets these run.
func (k *maker) process() deedOf {
	if k.isIn {
		return deedOf{"'in' out", func(w *world) { w.show("in"); w.sent(1) }}
	}
	if k.r.Intn(2) == 0 {
		return deedOf{"self yield", func(w *world) { w.sent(1); w.others() }}
	}
	k.isIn = true
	s := k.statements(3)
	k.isIn = false
	return deedOf{"[" + s.text + "] process resume", func(w *world) { w.sent(2); w.queue = append(w.queue, s.do) }}
}

// others: those that wait to run do, each to its end.
func (w *world) others() {
	for len(w.queue) > 0 {
		next := w.queue[0]
		w.queue = w.queue[1:]
		next(w)
	}
}

// ending: the last part.
func (k *maker) ending() deedOf {
	switch k.r.Intn(6) {
	case 0:
		return deedOf{"self zork: 3 bar: 4", func(w *world) { w.sent(1); w.fault("doesNotUnderstand: zork:bar:") }}
	case 1:
		return deedOf{"3 ifTrue: [1]", func(w *world) { w.fault("mustBeBoolean") }}
	case 2:
		return deedOf{"self late value! late ^[:y | ^y] value: 2; value", func(w *world) { w.sent(3) }}
	case 3:
		return deedOf{"self late value: 1. 'never' out! late ^[:y | ^y]", func(w *world) { w.sent(2); w.fault("cannotReturn:") }}
	}
	return deedOf{"'end' out", func(w *world) { w.show("end"); w.sent(1) }}
}

// meant: a source by chance, and the lines of its run with some input, with the one that tells how it ended; or, if one of its saves answers true, of what comes behind that.
func meant(seed int64) (string, func(input []byte, loaded int) []string) {
	k := &maker{r: rand.New(rand.NewSource(seed))}
	s, last := k.statements(9), k.ending()
	var temps strings.Builder
	for i := range k.loops {
		if strings.Contains(s.text, fmt.Sprintf("k%d := 0", i+1)) {
			temps.WriteString(fmt.Sprintf(" k%d", i+1))
		}
	}
	text := meantClasses + start("| x y z"+temps.String()+" | x := 1. y := 2. z := 3. "+s.text+". "+last.text)
	return text, func(input []byte, loaded int) []string {
		w := &world{vars: map[string]int64{"x": 1, "y": 2, "z": 3}, input: input, loaded: loaded}
		w.sent(1)
		func() {
			defer func() {
				if x := recover(); x != nil && x != any(faulted{}) {
					panic(x)
				}
			}()
			s.do(w)
			last.do(w)
		}()
		w.others()
		return append(w.lines, fmt.Sprintf("ran done %d", w.count))
	}
}
