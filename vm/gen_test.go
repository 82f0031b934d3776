package vm

import (
	"fmt"
	"math/rand"
	"strings"
)

// writer: writes programs by chance. Each kind of value has variables of its own; now and then one of another kind is taken.
type writer struct {
	r     *rand.Rand
	label int
	depth int
	loops int
	inner int // how many blocks stand around
	vars  map[string][]string
	isBig bool // in the first method, where there is all
}

// one: of some texts.
func (w *writer) one(list ...string) string { return list[w.r.Intn(len(list))] }

// chance: in n of 100.
func (w *writer) chance(n int) bool { return w.r.Intn(100) < n }

// program: a file.
func program(seed int64) string {
	w := &writer{r: rand.New(rand.NewSource(seed))}
	var b strings.Builder
	b.WriteString("Object subclass: #P fields: 'f g'!\nP subclass: #Q fields: 'h'!\nArray subclass: #L fields: ''!\nSemaphore subclass: #S fields: ''!\n")
	w.vars = map[string][]string{"any": {"f", "g", "x", "y"}, "int": {"n"}, "put": {"f", "g", "y"}}
	b.WriteString("P methods!\n")
	for _, pattern := range []string{"foo", "foo: x", "bar: x with: z", "* x", "go"} {
		b.WriteString(w.method(pattern, "y n") + "!\n")
	}
	if w.chance(60) {
		b.WriteString("doesNotUnderstand: x 'dnu' out. x selector out. x arguments size digits out. ^" + w.one("self", "x", "3", "x arguments", "true", "self foo: 1") + "!\n")
	}
	b.WriteString("!\nQ methods!\n")
	for _, pattern := range []string{"foo: x", "go"} {
		b.WriteString(w.method(pattern, "y n") + "!\n")
	}
	b.WriteString("!\nP class methods!\nfoo ^" + w.one("self new", "3", "super new", "super foo") + "! !\nObject methods!\n")
	w.vars = map[string][]string{"any": {"x", "y"}, "int": {"n"}, "put": {"y"}}
	for _, pattern := range []string{"run: x", "try: x", "meta: x"} {
		b.WriteString(w.method(pattern, "y n") + "!\n")
	}
	b.WriteString("late: x ^[:k | ^x]! again: k k < 1 ifTrue: ['r' out. ^k]. ^(self again: k - 1) + 1! do: x x value. 'did' out. ^x value! !\n")
	w.isBig = true
	w.vars = map[string][]string{"any": {"x", "y", "z"}, "int": {"i", "j"}, "sem": {"s", "t"}, "task": {"p", "q"}, "block": {"b", "c"}, "one": {"d"}, "list": {"a"}, "put": {"x", "y", "z"}}
	first := "s := " + w.one("Semaphore", "S") + " new setup. t := Semaphore new setup. i := 3. j := 5. a := Array new: 2. b := " + w.block("") + ". c := " + w.block("") + ". d := " + w.block(":u") + ". p := " + w.block("") + " process. q := " + w.block("") + " process. "
	if w.chance(50) {
		first += w.one("s", "t") + " timer. "
	}
	body := w.statements(6 + w.r.Intn(10))
	b.WriteString("UndefinedObject methods!\nstart | i j x y z s t p q a b c d u k0 k1 k2 k3 | " + first + body + ". 'end' out! !\n")
	return b.String()
}

// method: of a pattern, with variables.
func (w *writer) method(pattern, temps string) string {
	w.depth = 1
	return pattern + " | " + temps + " k0 k1 k2 k3 | n := 2. " + w.statements(1+w.r.Intn(3)) + w.one("", "", ". ^"+w.value("any"))
}

func (w *writer) statements(count int) string {
	var list []string
	for range count {
		list = append(list, w.statement())
	}
	if w.inner > 0 && w.chance(8) {
		list = append(list, "^"+w.value("any"))
	}
	return strings.Join(list, ". ")
}

// block: with perhaps a parameter.
func (w *writer) block(param string) string {
	w.depth++
	w.inner++
	defer func() { w.depth--; w.inner-- }()
	body := w.show()
	if w.depth < 4 {
		body = w.statements(w.r.Intn(4))
	}
	if w.chance(50) {
		if body != "" && !strings.Contains(body, "^") {
			body += ". "
		}
		if !strings.Contains(body, "^") {
			body += w.value("any")
		}
	}
	if param != "" {
		// The outer variable has another name, as it is one and the same slot each time.
		return "[:" + fmt.Sprintf("v%d", w.next()) + " | " + body + "]"
	}
	return "[" + body + "]"
}

func (w *writer) next() int {
	w.label++
	return w.label
}

// show: something to be seen.
func (w *writer) show() string {
	if w.chance(20) {
		return w.value("int") + " digits out"
	}
	return fmt.Sprintf("'%d' out", w.next())
}

func (w *writer) statement() string {
	if w.depth > 5 {
		return w.show()
	}
	w.depth++
	defer func() { w.depth-- }()
	if w.chance(30) {
		return w.show()
	}
	if w.isBig && w.chance(55) {
		return w.bigStatement()
	}
	switch w.r.Intn(12) {
	case 0:
		return w.one(w.vars["put"]...) + " := " + w.value("any")
	case 1:
		return w.one(w.vars["int"]...) + " := " + w.value("int")
	case 2:
		return w.value("bool") + " ifTrue: " + w.plain() + w.one("", " ifFalse: "+w.plain())
	case 3:
		return w.value("bool") + " ifFalse: " + w.plain() + w.one("", " ifTrue: "+w.plain())
	case 4:
		return w.loop()
	case 5:
		return w.value("any") + " " + w.one("foo", "go", "zork", "yield", "value", "gc", "class", "size")
	case 6:
		return w.value("any") + " " + w.one("foo: ", "run: ", "try: ", "do: ", "value: ", "meta: ", "zork: ", "perform: ") + w.value("any")
	case 7:
		return w.one("self", "P new", "Q new", "Q new") + " " + w.one("foo", "go", "foo: 4", "foo: "+w.block(""), "* 3", "bar: 1 with: "+w.block(""), "foo; foo: 1; go")
	case 8:
		return "(" + w.value("int") + " < 3) " + w.one("ifTrue: ", "and: ", "or: ") + w.plain()
	case 9:
		return "super " + w.one("foo", "foo: 1", "go", "run: 3", "yield", "class")
	case 10:
		return "self again: " + w.one("1", "3", "6")
	}
	return "self do: " + w.block("")
}

// plain: a block that is perhaps in line.
func (w *writer) plain() string {
	if w.chance(5) {
		return w.value("any")
	}
	return w.block("")
}

// loop: that ends, if nothing else ends it.
func (w *writer) loop() string {
	if w.loops > 3 {
		return w.show()
	}
	k := fmt.Sprintf("k%d", w.loops)
	w.loops++
	defer func() { w.loops-- }()
	test, form := k+" < "+w.one("2", "3"), "whileTrue: "
	if w.chance(30) {
		test, form = "("+test+") == false", "whileFalse: "
		test = "1 < " + k
	}
	return k + " := 0. [" + test + "] " + form + "[" + w.statements(1+w.r.Intn(2)) + ". " + k + " := " + k + " + 1]"
}

// bigStatement: about processes, semaphores, and what else a primitive does.
func (w *writer) bigStatement() string {
	switch w.r.Intn(14) {
	case 0, 1, 2:
		return w.block("") + " process " + w.one("resume", "resume", "resume; yield", "priority: 4; resume", "priority: 2; resume", "priority: 5; resume")
	case 3, 4:
		return w.value("sem") + " " + w.one("wait", "signal", "signal", "timer", "setup")
	case 5:
		return w.value("task") + " " + w.one("resume", "suspend", "terminate", "priority: 4", "priority: 2", "priority: 3", "priority: 6", "resume", "resume")
	case 6:
		return "self yield"
	case 7:
		return "self running " + w.one("yield", "suspend", "terminate", "priority: 1", "priority: 5", "resume", "priority digits out", "priority: 3")
	case 8:
		return w.value("block") + " " + w.one("value", "value", "value: 1", "process resume", "params digits out", "all: a", "all: #()", "all: #(1)")
	case 9:
		return w.value("one") + " " + w.one("value", "value: 1", "value: "+w.value("any"), "value: 1 value: 2", "all: #(7)", "params digits out")
	case 10:
		return "(" + w.one("self perform: #foo", "P new perform: #foo: with: 3", "P new perform: #foo", "self perform: #again: with: 2", "P new perform: #bar:with: all: #(1 2)", "Q new perform: #foo: all: #(5)", "self perform: #zork all: #()", "self perform: #again: all: a", "self perform: #perform: with: #yield", "self perform: #perform:with: all: #(again: 2)", "self perform: 3", "self perform: 'foo'", "self perform: #foo: with: 1 with: 2") + ") " + w.one("class", "size", "yield")
	case 11:
		if w.chance(40) {
			return "(self save ifTrue: ['T'] ifFalse: ['F']) out"
		}
		return "a at: " + w.one("1", "2", "3") + " put: " + w.value("any")
	case 12:
		if w.chance(4) {
			return "self quit"
		}
		return "self in digits out"
	}
	v := w.one("s", "t", "p", "q", "b", "c", "d", "a")
	switch v {
	case "s", "t":
		return v + " := " + w.value("sem")
	case "p", "q":
		return v + " := " + w.value("task")
	case "b", "c":
		return v + " := " + w.value("block")
	case "d":
		return v + " := " + w.value("one")
	}
	return v + " := " + w.value("list")
}

// value: of a kind, most of the time.
func (w *writer) value(kind string) string {
	w.depth++
	defer func() { w.depth-- }()
	if w.chance(3) {
		kind = w.one("int", "bool", "any")
	}
	if vars := w.vars[kind]; len(vars) > 0 && (w.depth > 5 || w.chance(50)) {
		return w.one(vars...)
	}
	if w.depth > 6 {
		return w.one("1", "nil", "true", "self")
	}
	switch kind {
	case "int":
		return w.one("1", "2", "7", "("+w.value("int")+" + "+w.value("int")+")", "("+w.value("int")+" - "+w.value("int")+")", "self count", "4611686018427387903", "self running priority", "-4")
	case "bool":
		return w.one("true", "false", "("+w.value("int")+" < "+w.value("int")+")", "("+w.value("any")+" == "+w.value("any")+")", "("+w.value("int")+" < 5 and: ["+w.value("bool")+"])", "(false or: ["+w.value("bool")+"])")
	case "sem":
		return w.one("Semaphore new setup", "S new setup", "Semaphore new", "nil")
	case "task":
		return w.one(w.block("")+" process", "self running", "nil")
	case "block":
		return w.block("")
	case "one":
		return w.block(":u")
	case "list":
		return w.one("(Array new: 1)", "(L new: 2)", "#(1 $a foo)", "#()")
	}
	return w.one("self", "nil", "3", "true", "'text'", "#sym", "P new", "Q new", w.block(""), "P", "(self late: 4)", "self count", "("+w.value("int")+")", "("+w.value("bool")+")", "('a' , 'b')", "P foo")
}
