package vm

import (
	"fmt"
	"slices"
	"strings"

	"foundling/api"
	"foundling/chunk"
	"foundling/parse"
	"foundling/scope"
	"foundling/sema"
)

// The model does what the source says, from its trees: methods call one another as functions of Go do, each process is a goroutine, and one of them runs at a time. It has no memory, no instructions, no steps.

// value: an int64, *object, *class, *block or *process.
type value any

type class struct {
	name    string
	super   *class
	meta    *class // of a class
	own     *class // of a metaclass: the class
	fields  int
	kind    int
	methods map[string]*method
}

type method struct {
	code     scope.Code
	holder   *class
	literals map[string]value
}

// object: of a semaphore that is set up there are signals, and those that wait.
type object struct {
	class   *class
	words   []value
	bytes   []byte
	isSet   bool
	signals int64
	queue   []*task
}

type block struct {
	home *scene
	item scope.Item
}

// scene: what a context is in the machine.
type scene struct {
	sender, home *scene // home: of a block's
	isLeft       bool
	method       *method
	self         value
	slots        []value
}

// task: a process.
type task struct {
	priority  int
	cause     any // what it waits for
	isOver    bool
	isStarted bool
	isKilled  bool
	begin     func(*task)
	wake      chan bool
}

// model: a program that runs.
type model struct {
	classes            map[string]*class
	symbols            map[string]*object
	none, yes, no      *object
	active             *task
	tasks              []*task
	run                [6][]*task
	timer              *object
	events             []Event
	input              []byte
	ticks              []int
	count, fuel, saves int
	saveTrue           int // which save answers true; 0: none
	end                int
	isStopped          bool
	back               chan bool
	savedAt            []saved
}

// saved: how it was when a snapshot was taken.
type saved struct {
	count, events int
	input         []byte
}

// What the model's goroutines end with, or come back to a scene with.
type gone struct{}

type unwound struct {
	to *scene
	v  value
}

// newModel: of files that are a program.
func newModel(o Options, fuel int, files ...string) *model {
	m := &model{classes: map[string]*class{}, symbols: map[string]*object{}, input: slices.Clone(o.Input), ticks: o.Ticks, count: o.Count, fuel: fuel, back: make(chan bool)}
	p, problems := sema.Build(files...)
	if len(problems) > 0 {
		panic(fmt.Sprint("no program: ", problems))
	}
	var globals []string
	for _, c := range p.Classes {
		m.classes[c.Name] = &class{name: c.Name, fields: len(c.All), kind: c.Kind, methods: map[string]*method{}}
		m.classes[c.Name].meta = &class{own: m.classes[c.Name], methods: map[string]*method{}}
		globals = append(globals, c.Name)
	}
	fields := map[string][]string{}
	for _, c := range p.Classes {
		k := m.classes[c.Name]
		k.super = m.classes[c.Super]
		k.meta.super = m.classes["Class"]
		if k.super != nil {
			k.meta.super = k.super.meta
		}
		if !slices.ContainsFunc(sema.Kernel(), func(s sema.Class) bool { return s.Name == c.Name }) || c.Name == "Message" {
			fields[c.Name] = c.All // no class with fields of its own stands below one of the kernel's with some but Message
		}
	}
	for _, f := range files {
		u, _, _ := chunk.Read(f)
		for _, s := range u.Sources {
			m.define(s, fields[s.Class], globals)
		}
	}
	m.none, m.yes, m.no = &object{class: m.classes["UndefinedObject"]}, &object{class: m.classes["True"]}, &object{class: m.classes["False"]}
	return m
}

func (m *model) define(s chunk.Source, fields, globals []string) {
	holder := m.classes[s.Class]
	if s.Meta {
		holder, fields = holder.meta, nil
	}
	t, _, e := parse.Method(s.Text)
	c, _, f := scope.Resolve(t, fields, globals)
	if e != api.OK || f != api.OK {
		panic("no method: " + s.Text)
	}
	holder.methods[c.Name] = &method{code: c, holder: holder, literals: map[string]value{}}
}

func (m *model) symbol(s string) *object {
	if m.symbols[s] == nil {
		m.symbols[s] = &object{class: m.classes["Symbol"], bytes: []byte(s)}
	}
	return m.symbols[s]
}

func (m *model) text(s string) *object {
	return &object{class: m.classes["String"], bytes: []byte(s)}
}

func (m *model) truth(is bool) value {
	if is {
		return m.yes
	}
	return m.no
}

func (m *model) classOf(v value) *class {
	switch x := v.(type) {
	case int64:
		return m.classes["SmallInteger"]
	case *object:
		return x.class
	case *block:
		return m.classes["Block"]
	case *task:
		return m.classes["Process"]
	case *class:
		if x.meta == nil {
			return m.classes["Metaclass"]
		}
		return x.meta
	}
	panic(fmt.Sprintf("no value: %T", v))
}

func lookup(c *class, name string) *method {
	for ; c != nil; c = c.super {
		if c.methods[name] != nil {
			return c.methods[name]
		}
	}
	return nil
}

func (c *class) isBelow(above *class) bool {
	for ; c != nil; c = c.super {
		if c == above {
			return true
		}
	}
	return false
}

// literal: of a method, each of them once.
func (m *model) literal(in *method, i scope.Item) value {
	switch i.Kind {
	case scope.Int:
		return i.Num
	case scope.Symbol:
		return m.symbol(i.Name)
	case scope.Nil:
		return m.none
	case scope.True, scope.False:
		return m.truth(i.Kind == scope.True)
	}
	key := fmt.Sprintf("%#v", i)
	if in.literals[key] == nil {
		if i.Kind == scope.Text {
			in.literals[key] = m.text(i.Name)
		} else {
			in.literals[key] = m.list(in, i)
		}
	}
	return in.literals[key]
}

// list: parts of a List are made for it alone.
func (m *model) list(in *method, i scope.Item) value {
	out := &object{class: m.classes["Array"]}
	for _, kid := range i.Kids {
		switch kid.Kind {
		case scope.Text:
			out.words = append(out.words, m.text(kid.Name))
		case scope.List:
			out.words = append(out.words, m.list(in, kid))
		default:
			out.words = append(out.words, m.literal(in, kid))
		}
	}
	return out
}

// play: all of it, or as much as there is fuel for.
func (m *model) play() *model {
	first := &task{priority: 3, wake: make(chan bool)}
	first.begin = func(p *task) { m.send(p, nil, m.classOf(m.none), "start", []value{m.none}) }
	m.tasks = append(m.tasks, first)
	m.active = first
	for m.choose() && m.end == Running && !m.isStopped {
		p := m.active
		if !p.isStarted {
			p.isStarted = true
			go m.live(p)
		} else {
			p.wake <- true
		}
		<-m.back
	}
	if m.end == Running && !m.isStopped {
		m.end = Done
	}
	m.isStopped = true
	for _, p := range m.tasks {
		if p.isStarted {
			close(p.wake)
		}
	}
	return m
}

// live: a process, from its beginning to its end.
func (m *model) live(p *task) {
	defer func() {
		x := recover()
		if _, isGone := x.(gone); x != nil && !isGone {
			panic(x)
		}
		if !p.isKilled {
			m.back <- true
		}
	}()
	p.begin(p)
	m.finish(p)
}

// choose: who is next.
func (m *model) choose() bool {
	for m.active == nil {
		if m.pull() {
			return true
		}
		next := -1
		for i, n := range m.ticks {
			if n > m.count && (next < 0 || n < m.ticks[next]) {
				next = i
			}
		}
		if m.timer == nil || next < 0 {
			return false
		}
		m.count = m.ticks[next]
		m.tick()
	}
	return true
}

// settle: another process may run now; or this one is over.
func (m *model) settle(p *task) {
	if p.isOver {
		panic(gone{})
	}
	if m.isStopped { // by Quit, or without fuel
		panic(gone{})
	}
	if m.active == p {
		return
	}
	m.back <- true
	if !<-p.wake {
		p.isKilled = true
		panic(gone{})
	}
}

func (m *model) tally(p *task) {
	m.count++
	if slices.Contains(m.ticks, m.count) {
		m.tick()
	}
	m.fuel--
	if m.fuel <= 0 || m.end != Running {
		m.isStopped = true
	}
	m.settle(p)
}

func (m *model) tick() {
	if m.timer != nil {
		m.signal(m.timer)
	}
	if m.active == nil || m.top() >= m.active.priority {
		m.giveWay()
	}
}

func (m *model) top() int {
	for n := 5; n > 0; n-- {
		if len(m.run[n]) > 0 {
			return n
		}
	}
	return 0
}

func (m *model) ready(p *task) {
	p.cause = p.priority
	m.run[p.priority] = append(m.run[p.priority], p)
}

func (m *model) pull() bool {
	n := m.top()
	if n == 0 {
		return false
	}
	m.active = m.run[n][0]
	m.remove(m.active)
	return true
}

func (m *model) giveWay() {
	if m.active != nil {
		m.ready(m.active)
		m.active = nil
	}
	m.pull()
}

func (m *model) remove(p *task) {
	isIt := func(x *task) bool { return x == p }
	switch c := p.cause.(type) {
	case int:
		m.run[c] = slices.DeleteFunc(slices.Clone(m.run[c]), isIt)
	case *object:
		c.queue = slices.DeleteFunc(slices.Clone(c.queue), isIt)
	}
	p.cause = nil
}

func (m *model) finish(p *task) {
	m.remove(p)
	p.isOver = true
	if m.active == p {
		m.active = nil
	}
}

func (m *model) signal(s *object) *task {
	if len(s.queue) == 0 {
		s.signals++
		return nil
	}
	p := s.queue[0]
	m.remove(p)
	m.ready(p)
	return p
}

func (m *model) fault(p *task, name string) {
	m.events = append(m.events, Event{Kind: Fault, Name: name})
	m.finish(p)
}

// send: a message, whose method is looked for from a class on.
func (m *model) send(p *task, from *scene, c *class, name string, list []value) value {
	then := m.means(p, from, c, name, list)
	m.tally(p)
	return then()
}

// means: does what a message comes to at once; what is answered does the rest.
func (m *model) means(p *task, from *scene, c *class, name string, list []value) func() value {
	for {
		found := lookup(c, name)
		if found == nil {
			found = lookup(m.classOf(list[0]), "doesNotUnderstand:")
			if found == nil {
				m.fault(p, "doesNotUnderstand: "+name)
				return nil
			}
			args := &object{class: m.classes["Array"], words: slices.Clone(list[1:])}
			list = []value{list[0], &object{class: m.classes["Message"], words: []value{m.symbol(name), args}}}
		}
		d := &doing{model: m, task: p, from: from, list: list}
		if v, isDone := d.primitive(found.code.Prim); isDone {
			switch {
			case d.asked != "":
				name, list = d.asked, d.list
				c = m.classOf(list[0])
				continue
			case d.then != nil:
				return d.then
			}
			return func() value { return v }
		}
		s := &scene{sender: from, method: found, self: list[0], slots: slices.Repeat([]value{m.none}, found.code.Slots)}
		copy(s.slots, list[1:])
		return func() value { return m.method(p, s) }
	}
}

// method: runs it to its end.
func (m *model) method(p *task, s *scene) (v value) {
	defer func() {
		if x := recover(); x != nil {
			u, isUnwound := x.(unwound)
			if !isUnwound || u.to != s {
				panic(x)
			}
			v = u.v
		}
	}()
	for _, i := range s.method.code.Body {
		m.eval(p, s, i)
	}
	s.isLeft = true
	return s.self
}

// block: runs it to its end.
func (m *model) block(p *task, b *block, sender *scene, args ...value) value {
	s := &scene{sender: sender, home: b.home, method: b.home.method, self: b.home.self}
	copy(b.home.slots[b.item.Slot:], args)
	v := m.inBlock(p, s, b.item)
	s.isLeft = true
	return v
}

// inBlock: the statements of a Block, in line or not.
func (m *model) inBlock(p *task, s *scene, i scope.Item) value {
	for slot := i.Slot + int(i.Num); slot < i.Slot+i.Width; slot++ {
		s.homeOf().slots[slot] = m.none
	}
	var v value = m.none
	for _, kid := range i.Kids {
		v = m.eval(p, s, kid)
	}
	return v
}

func (s *scene) homeOf() *scene {
	if s.home != nil {
		return s.home
	}
	return s
}

func (m *model) eval(p *task, s *scene, i scope.Item) value {
	home := s.homeOf()
	switch i.Kind {
	case scope.Self:
		return s.self
	case scope.Global:
		return m.classes[i.Name]
	case scope.Temp:
		return home.slots[i.Slot]
	case scope.Field:
		return s.self.(*object).words[i.Slot]
	case scope.SetTemp:
		v := m.eval(p, s, i.Kids[0])
		home.slots[i.Slot] = v
		return v
	case scope.SetField:
		v := m.eval(p, s, i.Kids[0])
		s.self.(*object).words[i.Slot] = v
		return v
	case scope.Block:
		return &block{home, i}
	case scope.Return:
		m.unwind(p, s, m.eval(p, s, i.Kids[0]))
	case scope.SuperSend:
		return m.send(p, s, s.method.holder.super, i.Name, append([]value{s.self}, m.all(p, s, i.Kids[1:])...))
	case scope.Cascade:
		r := m.eval(p, s, i.Kids[0].Kids[0])
		var v value
		for _, kid := range i.Kids {
			v = m.sendTo(p, s, r, kid)
		}
		return v
	case scope.Send:
		if isInLine(i) {
			return m.inLine(p, s, i)
		}
		return m.sendTo(p, s, m.eval(p, s, i.Kids[0]), i)
	}
	return m.literal(s.method, i)
}

func (m *model) all(p *task, s *scene, items []scope.Item) []value {
	var out []value
	for _, i := range items {
		out = append(out, m.eval(p, s, i))
	}
	return out
}

// sendTo: the message of an item to a receiver that is known.
func (m *model) sendTo(p *task, s *scene, r value, i scope.Item) value {
	list := append([]value{r}, m.all(p, s, i.Kids[1:])...)
	return m.send(p, s, m.classOf(r), i.Name, list)
}

// unwind: a value goes back from the method in which the scene stands.
func (m *model) unwind(p *task, s *scene, v value) {
	home := s.homeOf()
	isAbove := false
	for x := s; x != nil; x = x.sender {
		isAbove = isAbove || x == home
	}
	if home.isLeft || !isAbove {
		m.fault(p, "cannotReturn:")
		panic(gone{})
	}
	for x := s; x != home; x = x.sender {
		x.isLeft = true
	}
	home.isLeft = true
	panic(unwound{home, v})
}

// isInLine: is it no message that is sent?
func isInLine(i scope.Item) bool {
	blocks := i.Kids[1:]
	if strings.HasPrefix(i.Name, "while") {
		blocks = i.Kids
	}
	for _, kid := range blocks {
		if kid.Kind != scope.Block || kid.Num != 0 {
			return false
		}
	}
	return slices.Contains([]string{"ifTrue:", "ifFalse:", "ifTrue:ifFalse:", "ifFalse:ifTrue:", "and:", "or:", "whileTrue:", "whileFalse:", "whileTrue", "whileFalse"}, i.Name)
}

// choice: is it so?
func (m *model) choice(p *task, v value) bool {
	if v != value(m.yes) && v != value(m.no) {
		m.fault(p, "mustBeBoolean")
		panic(gone{})
	}
	return v == value(m.yes)
}

func (m *model) inLine(p *task, s *scene, i scope.Item) value {
	if strings.HasPrefix(i.Name, "while") {
		for m.choice(p, m.inBlock(p, s, i.Kids[0])) == strings.HasPrefix(i.Name, "whileTrue") {
			if len(i.Kids) > 1 {
				m.inBlock(p, s, i.Kids[1])
			}
			m.tally(p)
		}
		return m.none
	}
	is := m.choice(p, m.eval(p, s, i.Kids[0]))
	first := i.Name == "and:" || strings.HasPrefix(i.Name, "ifTrue:")
	switch {
	case is == first:
		return m.inBlock(p, s, i.Kids[1])
	case len(i.Kids) == 3:
		return m.inBlock(p, s, i.Kids[2])
	case i.Name == "and:" || i.Name == "or:":
		return m.truth(is)
	}
	return m.none
}
