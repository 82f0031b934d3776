package vm

import (
	"slices"
	"strconv"

	"foundling/api"
	"foundling/lex"
)

// doing: a primitive of the model's; what it asks for, or what is to run then.
type doing struct {
	*model
	task  *task
	from  *scene
	list  []value
	asked string
	then  func() value
}

// primitive: that of a number; false: it fails.
func (d *doing) primitive(n int) (value, bool) {
	args := map[int]int{1: 1, 2: 1, 12: 1, 20: 1, 21: 0, 23: 0, 24: 1, 25: 1, 26: 2, 27: 0, 52: 0, 53: 0, 57: 1, 60: 0, 61: 0, 30: 1, 31: 2, 32: 3, 33: 2, 40: 0, 41: 1, 42: 2, 43: 1, 44: 0, 70: 0, 71: 0, 72: 0, 73: 0, 74: 0, 75: 0, 76: 1, 77: 0, 80: 0, 81: 0, 82: 0, 83: 0, 84: 0, 90: 0, 91: 0, 92: 0}
	if count, isThere := args[n]; !isThere || count != len(d.list)-1 {
		return nil, false
	}
	switch {
	case n < 30:
		return d.object(n)
	case n < 50:
		return d.running(n)
	case n < 70:
		return d.text(n)
	case n < 80:
		return d.process(n)
	}
	return d.outside(n)
}

func number(v value) (int64, bool) {
	n, is := v.(int64)
	return n, is
}

func (d *doing) object(n int) (value, bool) {
	r := d.list[0]
	if n <= 12 {
		a, isFirst := number(r)
		b, isSecond := number(d.list[1])
		sum := map[int]int64{1: a + b, 2: a - b}[n]
		if !isFirst || !isSecond || sum > api.MaxInt || sum < api.MinInt {
			return nil, false
		}
		if n == 12 {
			return d.truth(a < b), true
		}
		return sum, true
	}
	switch n {
	case 20:
		return d.truth(r == d.list[1]), true
	case 21:
		return d.classOf(r), true
	case 23, 24:
		return d.fresh(n)
	}
	o, isObject := r.(*object)
	if !isObject {
		return nil, false
	}
	isList, isText := o.class.isBelow(d.classes["Array"]), o.class.isBelow(d.classes["String"])
	size := int64(len(o.words) + len(o.bytes))
	if !isList && !isText {
		return nil, false
	}
	if n == 27 {
		return size, true
	}
	i, isNumber := number(d.list[1])
	if !isNumber || i < 1 || i > size {
		return nil, false
	}
	switch {
	case n == 25 && isList:
		return o.words[i-1], true
	case n == 25:
		return int64(o.bytes[i-1]), true
	case isList:
		o.words[i-1] = d.list[2]
		return d.list[2], true
	}
	b, isByte := number(d.list[2])
	if !isByte || b < 0 || b > 255 || o.class.isBelow(d.classes["Symbol"]) {
		return nil, false
	}
	o.bytes[i-1] = byte(b)
	return b, true
}

// fresh: a new object.
func (d *doing) fresh(n int) (value, bool) {
	c, isClass := d.list[0].(*class)
	if !isClass || c.meta == nil {
		return nil, false
	}
	if n == 24 {
		size, isNumber := number(d.list[1])
		if !isNumber || size < 0 || size > api.MaxObject || !(c.isBelow(d.classes["Array"]) || c.isBelow(d.classes["String"])) || c.isBelow(d.classes["Symbol"]) {
			return nil, false
		}
		if c.isBelow(d.classes["Array"]) {
			return &object{class: c, words: slices.Repeat([]value{d.none}, int(size))}, true
		}
		return &object{class: c, bytes: make([]byte, size)}, true
	}
	for _, name := range []string{"Class", "Metaclass", "UndefinedObject", "True", "False", "SmallInteger", "Symbol", "Method", "Context", "Block", "Process"} {
		if c.isBelow(d.classes[name]) {
			return nil, false
		}
	}
	if c.kind != 0 {
		return nil, false
	}
	return &object{class: c, words: slices.Repeat([]value{d.none}, c.fields)}, true
}

// bytes: of a text.
func (d *doing) bytes(v value) (*object, bool) {
	o, is := v.(*object)
	return o, is && o.class.isBelow(d.classes["String"])
}

func (d *doing) text(n int) (value, bool) {
	r := d.list[0]
	if n == 61 {
		if len(d.input) == 0 {
			return d.none, true
		}
		b := d.input[0]
		d.input = d.input[1:]
		return int64(b), true
	}
	if n == 52 {
		x, is := number(r)
		return d.model.text(strconv.FormatInt(x, 10)), is
	}
	o, isText := d.bytes(r)
	if !isText {
		return nil, false
	}
	switch n {
	case 53:
		return d.symbol(string(o.bytes)), true
	case 57:
		a, isText := d.bytes(d.list[1])
		if !isText {
			return nil, false
		}
		return d.model.text(string(o.bytes) + string(a.bytes)), true
	}
	d.events = append(d.events, Event{Kind: Out, Bytes: slices.Clone(o.bytes)})
	return r, true
}

// running: what sends, or runs a block.
func (d *doing) running(n int) (value, bool) {
	switch n {
	case 30, 31, 32:
		return d.perform(d.list[2:])
	case 33:
		a, isList := d.array(d.list[2])
		if !isList {
			return nil, false
		}
		return d.perform(a.words)
	}
	b, isBlock := d.list[0].(*block)
	if !isBlock {
		return nil, false
	}
	args := d.list[1:]
	if n == 44 {
		return b.item.Num, true
	}
	if n == 43 {
		a, isList := d.array(args[0])
		if !isList {
			return nil, false
		}
		args = slices.Clone(a.words)
	}
	if len(args) != int(b.item.Num) {
		return nil, false
	}
	d.then = func() value { return d.block(d.task, b, d.from, args...) }
	return nil, true
}

func (d *doing) array(v value) (*object, bool) {
	o, is := v.(*object)
	return o, is && o.class.isBelow(d.classes["Array"])
}

func (d *doing) perform(args []value) (value, bool) {
	s, is := d.list[1].(*object)
	if !is || s.class != d.classes["Symbol"] || lex.Arity(string(s.bytes)) != len(args) {
		return nil, false
	}
	d.asked = string(s.bytes)
	d.list = append([]value{d.list[0]}, args...)
	return nil, true
}

func (d *doing) process(n int) (value, bool) {
	r := d.list[0]
	switch n {
	case 70:
		b, isBlock := r.(*block)
		if !isBlock || b.item.Num != 0 {
			return nil, false
		}
		p := &task{priority: d.active.priority, wake: make(chan bool)}
		p.begin = func(p *task) { d.block(p, b, nil) }
		d.tasks = append(d.tasks, p)
		return p, true
	case 74:
		if d.top() >= d.active.priority {
			d.giveWay()
		}
		return r, true
	case 77:
		return d.active, true
	}
	p, isProcess := r.(*task)
	if !isProcess {
		return nil, false
	}
	switch n {
	case 71:
		if p.isOver || p == d.active || p.cause != nil {
			return nil, false
		}
		d.ready(p)
		d.first(p)
	case 72:
		if p != d.active && p.cause == nil {
			return nil, false
		}
		if p == d.active {
			d.active = nil
		}
		d.remove(p)
	case 73:
		d.finish(p)
	case 75:
		return int64(p.priority), true
	case 76:
		n, isNumber := number(d.list[1])
		if p.cause != nil || !isNumber || n < 1 || n > 5 {
			return nil, false
		}
		p.priority = int(n)
		if p == d.active && d.top() > p.priority {
			d.giveWay()
		}
	}
	return r, true
}

// first: a process that waits to run may be so.
func (d *doing) first(p *task) {
	if p != nil && p.priority > d.active.priority {
		d.giveWay()
	}
}

func (d *doing) outside(n int) (value, bool) {
	r := d.list[0]
	switch n {
	case 84:
		return int64(d.count), true
	case 90:
		return r, true
	case 91:
		d.saves++
		d.events = append(d.events, Event{Kind: Saved})
		d.savedAt = append(d.savedAt, saved{d.count, len(d.events), slices.Clone(d.input)})
		return d.truth(d.saves == d.saveTrue), true
	case 92:
		d.end = Quit
		return r, true
	case 83:
		if r == value(d.none) {
			d.timer = nil
			return r, true
		}
	}
	s, is := r.(*object)
	if !is || !s.class.isBelow(d.classes["Semaphore"]) || s.isSet == (n == 80) {
		return nil, false
	}
	switch n {
	case 80:
		s.isSet = true
	case 81:
		if s.signals > 0 {
			s.signals--
		} else {
			d.active.cause = s
			s.queue = append(s.queue, d.active)
			d.active = nil
		}
	case 82:
		d.first(d.signal(s))
	case 83:
		d.timer = s
	}
	return r, true
}
