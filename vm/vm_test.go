package vm

import (
	"strings"
	"testing"
)

// A program, what comes from outside, and what is to be seen: the events, how it ends, and the count.
type play struct {
	text  string
	o     Options
	want  string
	end   int
	count int
}

// kin: classes for what is sent up the classes.
const kin = `Object subclass: #P fields: 'f'! P subclass: #Q fields: ''! Q subclass: #R fields: ''!
P methods! who 'P' out! up 'Pup' out. ^self who! set: x f := x! get ^f! only: x ^x + 1! !
Q methods! who 'Q' out! by 'by' out. ^super perform: #who! with: a ^super perform: #set: with: a! set: x 'Qset' out. ^super set: x! up 'Qup' out. ^super up! both ^[super up] value! !
R methods! who 'R' out. super who! !
P class methods! make 'made' out. ^self new! new 'new' out. ^super new! !
Object subclass: #D fields: ''! D subclass: #E fields: ''!
D methods! doesNotUnderstand: m m selector out. m arguments size digits out. ^m arguments! one ^super one! !
E methods! zip ^super zip! !
`

// home: methods that blocks return from.
const home = `Object methods!
late ^[^1]!
each: b 'each' out. b value. 'not' out!
find 'find' out. self each: [self each: [^'found' out]]. 'never' out!
two ^[[^7]]!
in: b ^b value!
pass ^self in: [self in: [3]]!
ends [:k | k digits out. ^k] value: 4. 'never' out!
self2 'self2' out!
empty! !
`

// P24.1: sends, returns, truths.
func TestMessages(t *testing.T) {
	for _, p := range []play{
		{"'hi' out", Options{}, "hi", Done, 2},
		{"(3 + 4) digits out", Options{}, "7", Done, 4},
		{"self foo", Options{}, "FAULT doesNotUnderstand: foo", Done, 2},
		{"self foo: 1 bar: 2. 'never' out", Options{}, "FAULT doesNotUnderstand: foo:bar:", Done, 2},
		{"3 / 4", Options{}, "FAULT doesNotUnderstand: /", Done, 2},
		{"super foo", Options{}, "FAULT doesNotUnderstand: foo", Done, 2},
		{"Q new who. Q new up", Options{}, "new / Q / new / Qup / Pup / Q", Done, 15},
		{"R new up", Options{}, "new / Qup / Pup / R / Q", Done, 12},
		{"P make get == nil ifTrue: ['nil' out]", Options{}, "made / new / nil", Done, 9},
		{"R new both who", Options{}, "new / Pup / R / Q / R / Q", Done, 16},
		{"(P new set: 5; get) digits out. (P new only: 6) digits out", Options{}, "new / 5 / new / 7", Done, 15},
		{"(D new zork: 1 with: 2) size digits out", Options{}, "zork:with: / 2 / 2", Done, 13},
		{"D new zork size digits out", Options{}, "zork / 0 / 0", Done, 13},
		{"E new zip size digits out. D new one", Options{}, "zip / 0 / 0 / one / 0", Done, 24},
		{"(3 perform: #zork: with: 4) out", Options{}, "FAULT doesNotUnderstand: zork:", Done, 2},
		{"(D new perform: #zork: with: 4) size digits out", Options{}, "zork: / 1 / 1", Done, 13},
		{"self find. 'back' out", Options{}, "find / each / each / found / back", Done, 11},
		{"self late value. 'never' out", Options{}, "FAULT cannotReturn:", Done, 3},
		{"self two value value. 'never' out", Options{}, "FAULT cannotReturn:", Done, 4},
		{"self pass digits out. self ends digits out", Options{}, "3 / 4 / 4", Done, 14},
		{"[^self late] value. 'never' out", Options{}, "", Done, 3},
		{"[:k | [^k] value] value: 3. 'never' out", Options{}, "", Done, 3},
		{"[^3] process resume. self yield. 'on' out", Options{}, "FAULT cannotReturn: / on", Done, 5},
		{"(self in: [#a]) out. (self in: []) == nil ifTrue: ['nil' out]. self self2 == self ifTrue: ['self' out]. self empty == self ifTrue: ['me' out]", Options{}, "a / nil / self2 / self / me", Done, 15},
		{"nil ifTrue: ['never' out]", Options{}, "FAULT mustBeBoolean", Done, 1},
		{"3 ifFalse: ['never' out]", Options{}, "FAULT mustBeBoolean", Done, 1},
		{"['x'] whileTrue. 'never' out", Options{}, "FAULT mustBeBoolean", Done, 1},
		{"(nil and: [true]) out", Options{}, "FAULT mustBeBoolean", Done, 1},
		{"(true or: [3]) ifTrue: ['t' out]. (false or: [true]) ifFalse: ['f' out] ifTrue: ['u' out]. (true and: [false]) ifTrue: ['v' out] ifFalse: ['w' out]", Options{}, "t / u / w", Done, 4},
		{"| b | b := [true]. nil ifTrue: b", Options{}, "FAULT doesNotUnderstand: ifTrue:", Done, 2},
		{"| i | i := 0. [i < 3] whileTrue: [i digits out. i := i + 1]", Options{}, "0 / 1 / 2", Done, 17},
		{"| i | i := 3. [i < 1] whileFalse: [i := i - 1]. [i := i + 1. i < 3] whileTrue. [i := i - 1. i < 0] whileFalse. i digits out", Options{}, "-1", Done, 32},
		{"(self again: 4) digits out", Options{}, "4", Done, 0},
		{"self in digits out. self in digits out. (self in == nil) ifTrue: ['end' out]. self in == nil ifTrue: ['end' out]", Options{Input: []byte{0, 255}}, "0 / 255 / end / end", Done, 13},
		{"'' out. 'a''b' out. #a:b: out. 3 out. (String new: 2) out", Options{}, " / a'b / a:b: / \x00\x00", Done, 7},
	} {
		p.play(t, kin, home, "Object methods! again: k k < 1 ifTrue: [^0]. ^1 + (self again: k - 1)! !")
	}
}

// play: is this to be seen, of a machine, and of the model?
func (p play) play(t *testing.T, files ...string) {
	t.Helper()
	files = append(files, start(p.text))
	m := machineOf(t, 30000, p.o, files...)
	end := m.Run(most)
	if p.count == 0 {
		p.count = m.Count()
	}
	if got := lines(m.Events()); got != p.want || end != p.end || m.Count() != p.count {
		t.Errorf("P24.1: %s:\n%s, %s at %d; want\n%s, %s at %d", p.text, got, names[end], m.Count(), p.want, names[p.end], p.count)
	}
	m.same(t, "P24.1: "+p.text+", against the model", end, newModel(p.o, most, append(files, library())...).play())
	m.check(t, p.text)
	for range 3 {
		if again := m.Run(7); again != end {
			t.Errorf("P24.1: %s: %s, and then %s", p.text, names[end], names[again])
		}
	}
}

// P24.1: what asks for a message in its turn, and blocks.
func TestPerformed(t *testing.T) {
	for _, p := range []play{
		{"(P perform: #new) who. (P new perform: #who) class == P ifTrue: ['P' out]", Options{}, "new / P / new / P / P", Done, 14},
		{"Q new by. R new by", Options{}, "new / by / Q / new / by / R / Q", Done, 17}, // of the receiver's class, though that is above
		{"(Q new with: 5) get digits out", Options{}, "new / Qset / 5", Done, 11},
		{"(3 perform: #+ with: 4) digits out. (P new perform: #set: with: 5) get digits out. (D new perform: #a:b: with: 1 with: 2) size digits out", Options{}, "7 / new / 5 / a:b: / 2 / 2", Done, 23},
		{"(3 perform: #+ all: #(4)) digits out. (3 perform: #digits all: #()) out. (Array perform: #new: all: #(5)) size digits out", Options{}, "7 / 3 / 5", Done, 10},
		{"3 perform: #+. 3 perform: #digits with: 1. 3 perform: #+ with: 1 with: 2. 3 perform: #a: all: #(1 2)", Options{}, "f30 / f31 / f32 / f33", Done, 9},
		{"3 perform: 'digits'. 3 perform: 4. 3 perform: nil with: 3. 3 perform: #+ all: 4. 3 perform: #+ all: nil. 3 perform: #digits all: '' ", Options{}, "f30 / f30 / f31 / f33 / f33 / f33", Done, 13},
		{"3 perform: '1x' symbol. 3 perform: 'a b' symbol. 3 perform: '' symbol. 3 perform: 'a:b' symbol with: 1", Options{}, "f30 / f30 / f30 / f31", Done, 13},
		{"self perform: #perform: with: #one. 'on' out. self perform: #perform: with: #none. 'never' out", Options{}, "f52 / on / FAULT doesNotUnderstand: none", Done, 5},
		{"(3 perform: #perform:with: with: #+ with: 4) digits out. (3 perform: #perform:all: with: #+ with: #(5)) digits out. (3 perform: #perform:with:with: all: #(a:b: 1 2)) out", Options{}, "7 / 8 / FAULT doesNotUnderstand: a:b:", Done, 8},
		{"(3 perform: #perform:all: all: #(perform:all: (perform:all: (perform:all: (digits ()))))) out", Options{}, "3", Done, 3},
		{"(3 perform: #perform: with: #+) out", Options{}, "f30", Done, 0},
		{"(P new perform: #only: with: 3) digits out. ([:x | x + 1] perform: #value: with: 4) digits out. ([:x :y | x - y] perform: #value:value: all: #(9 2)) digits out", Options{}, "new / 4 / 5 / 7", Done, 16},
		{"['v' out] value. ([:x | x] value: 3) digits out. ([:x :y | x + y] value: 3 value: 4) digits out. ([:x :y :z | z] all: #(1 2 9)) digits out. ([3] all: #()) digits out", Options{}, "v / 3 / 7 / 9 / 3", Done, 16},
		{"[:x | x] value. [] value: 3. [:x | x] value: 1 value: 2. [:x | x] all: #(). [] all: #(1). [] all: nil. [] all: 'a'. 3 value. nil value: 3. self value: 1 value: 2. 3 all: #()", Options{}, "f40 / f41 / f42 / f43 / f43 / f43 / f43 / f40 / f41 / f42 / f43", Done, 23},
		{"[] params digits out. [:a :b :c | ] params digits out. [:x | ] params digits out. 3 params. self params", Options{}, "0 / 3 / 1 / f44 / f44", Done, 14},
		{"| a | a := Array new: 1. a at: 1 put: 7. ([:x | x] all: a) digits out. ([:x | x] all: (L new: 1)) == nil ifTrue: ['nil' out]. (3 perform: #+ all: ((L new: 1) at: 1 put: 4; value))", Options{}, "7 / nil / f40", Done, 15},
		{"self one out. (self one: [3]) digits out. [self two: 1. 'never' out] value", Options{}, "f52 / f40 / 3 / FAULT doesNotUnderstand: two:", Done, 0},
	} {
		p.play(t, kin, "Array subclass: #L fields: ''! UndefinedObject methods! one <primitive: 52> 'f52' out. ^'f40'! one: b <primitive: 41> ^b value! !")
	}
}

// P24.1: processes that give way, are resumed, suspended, ended, by themselves or by others.
func TestProcesses(t *testing.T) {
	for _, p := range []play{
		{"['a' out. self yield. 'b' out] process resume. 'c' out. self yield. 'd' out", Options{}, "c / a / d / b", Done, 9},
		{"['h' out] process priority: 4; resume. 'm' out", Options{}, "h / m", Done, 6},
		{"['h' out. self yield. 'i' out] process priority: 5; resume. 'm' out", Options{}, "h / i / m", Done, 8},
		{"['l' out] process priority: 2; resume. 'm' out. self yield. 'n' out", Options{}, "m / n / l", Done, 8},
		{"['e' out] process resume. 'm' out. self yield. 'n' out", Options{}, "m / e / n", Done, 7},
		{"['a' out. self yield. 'b' out] process resume. ['c' out. self yield. 'd' out] process resume. self yield. 'e' out. self yield. 'f' out", Options{}, "a / c / e / b / d / f", Done, 15},
		{"'a' out. self running suspend. 'never' out", Options{}, "a", Done, 4},
		{"| p | p := self running. ['x' out. p resume. 'y' out] process resume. p suspend. 'z' out", Options{}, "x / y / z", Done, 9},
		{"| p | p := self running. ['x' out. p resume. 'y' out] process priority: 2; resume. p suspend. 'z' out", Options{}, "x / z / y", Done, 10},
		{"| p | p := ['never' out] process. p resume. p suspend. self yield. 'on' out", Options{}, "on", Done, 6},
		{"| p | p := ['p' out] process. p resume. p suspend. p suspend. p resume. self yield. 'on' out", Options{}, "f72 / p / on", Done, 10},
		{"| p | p := ['never' out] process. p resume. p terminate. self yield. p resume. p suspend. p terminate. p priority digits out. (p priority: 4) == p ifTrue: ['p' out]", Options{}, "f71 / f72 / 3 / p", Done, 16},
		{"| p | p := ['never' out] process. p terminate. p resume", Options{}, "f71", Done, 5},
		{"| p | p := ['x' out] process. p resume. p resume. self yield. p resume", Options{}, "f71 / x / f71", Done, 9},
		{"self running resume. self running terminate. 'never' out", Options{}, "f71", Done, 6},
		{"['x' out. self running terminate. 'never' out] process resume. self yield. 'on' out", Options{}, "x / on", Done, 8},
		{"| p | p := self running. [p terminate. 'x' out] process priority: 4; resume. 'never' out", Options{}, "x", Done, 7},
		{"[self zork. 'never' out] process resume. self yield. 'on' out", Options{}, "FAULT doesNotUnderstand: zork / on", Done, 6},
		{"[nil ifTrue: [1]] process priority: 4; resume. 'on' out", Options{}, "FAULT mustBeBoolean / on", Done, 5},
		{"['o' out] process resume. self running priority: 2. 'l' out", Options{}, "o / l", Done, 7},
		{"['o' out] process resume. self running priority: 3. 'l' out", Options{}, "l / o", Done, 7},
		{"self running priority: 5. ['o' out] process resume. ['f' out] process priority: 4; resume. 'l' out. self yield. self running priority: 4. 'm' out", Options{}, "l / o / m / f", Done, 15},
		{"| p | self running priority: 0. self running priority: 6. self running priority: nil. self running priority: -1. p := [] process. p resume. p priority: 2. p priority digits out. 3 priority: 2. 3 priority. self running priority digits out", Options{}, "f76 / f76 / f76 / f76 / f76 / 3 / f76 / f75 / 3", Done, 28},
		{"self running priority: 4. [] process priority digits out. ([] process priority: 1) priority digits out. [:x | x] process. 3 process", Options{}, "4 / 1 / f70 / f70", Done, 16},
		{"(['x' out] process resume; suspend; suspend; resume; yield; resume) class == Process ifTrue: ['P' out]", Options{}, "f72 / x / f71 / P", Done, 14},
		{"self running == self running ifTrue: ['same' out]. [self running terminate] process resume. self yield. 'on' out", Options{}, "same / on", Done, 11},
		{"['a' out] process resume. ['b' out] process priority: 4; resume. ['c' out] process priority: 5; resume. 'd' out", Options{}, "b / a / c / d", Done, 13},
		{"[['in' out. self yield. 'in2' out] process resume. 'first' out] process priority: 4; resume. 'main' out", Options{}, "first / in / in2 / main", Done, 11},
	} {
		p.play(t, home)
	}
}

// P24.1: semaphores.
func TestSemaphores(t *testing.T) {
	for _, p := range []play{
		{"s signal. s signal. s wait. s wait. 'on' out. s wait. 'never' out", Options{}, "on", Done, 9},
		{"['w' out. s wait. 'x' out] process resume. self yield. 'a' out. s signal. 'b' out. self yield. 'c' out", Options{}, "w / a / b / x / c", Done, 14},
		{"['w' out. s wait. 'x' out] process priority: 4; resume. 'a' out. s signal. 'b' out", Options{}, "w / a / x / b", Done, 12},
		{"['w' out. s wait. 'x' out] process priority: 2; resume. self running priority: 1. 'a' out. self running priority: 3. s signal. 'b' out", Options{}, "w / a / b / x", Done, 0},
		{"[s wait. '1' out] process resume. [s wait. '2' out] process resume. [s wait. '3' out] process resume. self yield. s signal. s signal. s signal. 'a' out. self yield", Options{}, "a / 1 / 2 / 3", Done, 21},
		{"[s wait. '1' out] process priority: 4; resume. [s wait. '2' out] process priority: 5; resume. s signal. 'a' out. s signal", Options{}, "1 / a / 2", Done, 16},
		{"| p | p := [s wait. '1' out] process. p resume. [s wait. '2' out] process resume. self yield. p terminate. s signal. 'a' out. self yield. 'b' out", Options{}, "a / 2 / b", Done, 0},
		{"| p | p := [s wait. '1' out] process. p resume. self yield. p suspend. s signal. 'a' out. p resume. self yield. s wait. 'b' out", Options{}, "a / 1 / b", Done, 0},
		{"| p | p := [s wait. '1' out] process. p resume. self yield. p resume. p priority: 4. p suspend. p priority: 4. p resume. 'a' out", Options{}, "f71 / f76 / 1 / a", Done, 0},
		{"s setup. 3 setup. nil signal. nil wait. Semaphore new wait. Semaphore new signal. Semaphore new timer. 'x' timer. 3 signal. self running wait", Options{}, "f80 / f80 / f82 / f81 / f81 / f82 / f83 / f83 / f82 / f81", Done, 0},
		{"S new setup wait. 'never' out", Options{}, "", Done, 0},
		{"(s signal == s and: [s wait == s]) ifTrue: ['s' out]. (S new setup == s) ifFalse: ['t' out]. [s wait == s ifTrue: ['u' out]] process resume. self yield. s signal", Options{}, "s / t / u", Done, 0},
		{"s wait. 'never' out", Options{Ticks: []int{9, 50}}, "", Done, 4},
	} {
		p.text = "| s | s := Semaphore new setup. " + strings.Replace(p.text, "| p |", "", 1)
		if strings.Contains(p.text, "p :=") {
			p.text = strings.Replace(p.text, "| s |", "| s p |", 1)
		}
		p.play(t, "Semaphore subclass: #S fields: ''!")
	}
}

// P24.1: ticks, the Timer, the count.
func TestTicks(t *testing.T) {
	const timer = "| s n | n := 0. s := Semaphore new setup. s timer. " // counts 1 to 4
	const waits = timer + "[[true] whileTrue: [s wait. 'tick' out]] process priority: 4; resume. "
	for _, p := range []play{
		{timer + "s wait. 'tick' out", Options{Ticks: []int{9}}, "tick", Done, 10},
		{timer + "s wait. 'tick' out", Options{}, "", Done, 5},
		{timer + "s wait. 'tick' out", Options{Ticks: []int{1, 2, 3}}, "", Done, 5},
		{timer + "s wait. 'tick' out", Options{Ticks: []int{4}}, "tick", Done, 6}, // behind what makes it the Timer
		{timer + "s wait. 'tick' out. s wait. 'tock' out", Options{Ticks: []int{5}}, "tick", Done, 7},
		{timer + "s wait. 'tick' out. s wait. 'tock' out", Options{Ticks: []int{5, 5, 5}}, "tick", Done, 7},
		{timer + "s wait. 'tick' out. s wait. 'tock' out", Options{Ticks: []int{50, 9}}, "tick / tock", Done, 51},
		{timer + "s wait. self count digits out. s wait. self count digits out", Options{Ticks: []int{8, 7, 100, 6}}, "6 / 10", Done, 100},
		{timer + "'last' out", Options{Ticks: []int{50, 9, -3, 70, 70}}, "last", Done, 70},
		{timer + "nil timer. 'last' out", Options{Ticks: []int{50, 9}}, "last", Done, 6},
		{timer + "s wait. nil timer. 'x' out. s wait. 'never' out", Options{Ticks: []int{50, 90}}, "x", Done, 53},
		{timer + "Semaphore new setup timer. s wait. 'never' out", Options{Ticks: []int{50, 90}}, "", Done, 90},
		{timer + "s wait. 'tick' out", Options{Ticks: []int{9, 1009, 1010}, Count: 1000}, "tick", Done, 1010},
		{timer + "s wait. 'tick' out", Options{Ticks: []int{-90, -3, -50}, Count: -60}, "tick", Done, -3},
		{"self count digits out. self count digits out", Options{Count: 40}, "41 / 44", Done, 47},
		{"self count digits out", Options{Count: -9}, "-8", Done, -5},
		{waits + "[n < 4] whileTrue: [n digits out. n := n + 1]", Options{Ticks: []int{12, 20}}, "0 / tick / 1 / tick / 2 / 3", Done, 0},
		{"| n | n := 0. ['e' out. 'f' out] process resume. [n < 3] whileTrue: [n digits out. n := n + 1]", Options{Ticks: []int{8}}, "0 / e / f / 1 / 2", Done, 0},
		{"| n | n := 0. ['e' out. 'f' out] process priority: 2; resume. [n < 3] whileTrue: [n digits out. n := n + 1]", Options{Ticks: upTo(60)}, "0 / 1 / 2 / e / f", Done, 0},
		{"| n | n := 0. ['e' out] process resume. [n < 3] whileTrue: [n := n + 1]. 'm' out", Options{Ticks: []int{6}}, "e / m", Done, 0}, // at a jump back
		{"['e' out. 'f' out] process resume. 'm' out. 'n' out", Options{Ticks: []int{4}}, "m / e / f / n", Done, 7},
		{"['e' out. 'f' out] process resume. 'm' out. 'n' out", Options{Ticks: []int{3}}, "e / f / m / n", Done, 7},
		{"['e' out. 'f' out] process resume. 'm' out. 'n' out", Options{Ticks: []int{3, 4, 5, 6, 7, 8}}, "e / m / f / n", Done, 7},
		{"['e' out. 'f' out] process resume. self yield. 'm' out. 'n' out", Options{Ticks: []int{4}}, "m / n / e / f", Done, 8}, // who has come gives way at once
		{"self running suspend. 'never' out", Options{Ticks: []int{3, 4, 10}}, "", Done, 3},
	} {
		p.play(t)
	}
}

// P24.1: the end that is asked for.
func TestQuit(t *testing.T) {
	for _, p := range []play{
		{"'a' out. self quit. 'never' out", Options{}, "a", Quit, 3},
		{"['b' out] process resume. 'a' out. self quit", Options{Ticks: []int{5}}, "a", Quit, 5},
		{"['b' out. self quit] process priority: 4; resume. 'never' out", Options{}, "b", Quit, 6},
		{"self perform: #quit. 'never' out", Options{}, "", Quit, 2},
	} {
		p.play(t)
	}
	m := machineOf(t, 30000, Options{}, start("'a' out. self quit. 'never' out"))
	if end := m.Run(6); end != Running || m.Steps() != 6 || m.Count() != 2 {
		t.Errorf("P24.1: %s behind %d steps", names[end], m.Steps())
	}
	if end := m.Run(1); end != Quit || m.Steps() != 7 || m.Count() != 3 {
		t.Errorf("P24.1: %s behind %d steps", names[end], m.Steps())
	}
}
