package vm

import (
	"fmt"
	"strings"
	"testing"
)

// shows: what is answered, as something to be seen.
const shows = `Object subclass: #P fields: 'f'! Array subclass: #L fields: ''! Semaphore subclass: #S fields: ''!
Object methods! show 'o' out! !
SmallInteger methods! show self digits out! !
String methods! show self out! !
UndefinedObject methods! show 'nil' out! !
True methods! show 'true' out! !
False methods! show 'false' out! !
Array methods! show 'A' out. self size digits out! !
Process methods! show 'P' out. self priority digits out! !
Semaphore methods! show 'S' out! !
Block methods! show 'B' out! !
Class methods! show 'C' out! !
P methods! foo 'foo' out! foo: a a show. ^3! perform: a with: b 'mine' out! !
`

// pool: values of each kind, by what makes them behind setting.
func pool() []string {
	return []string{
		"nil", "true", "3", "0", "1", "5", "6", "-1", "4611686018427387903", "'text'", "''", "#sym", "#foo", "#foo:", "#+", "#perform:", "'a b' symbol", "(Array new: 2)", "(L new: 1)", "#()", "#(1)", "#(#foo: #(1))",
		"[]", "[3]", "[:x | x]", "[:x :y | y]", "[:x :y :z | z]", "[^3]", "(Semaphore new)", "(Semaphore new setup)", "(S new setup)", "s", "w", "self running", "ready", "held", "idle", "over", "([] process)", "main",
		"(P new)", "P", "P class", "Metaclass", "Semaphore", "Array", "self",
	}
}

// setting: a semaphore with signals, one for which somebody waits; processes that wait to run, wait for that, do neither, are over.
const setting = "| s w ready held idle over main | main := self running. s := Semaphore new setup. s signal. w := Semaphore new setup. ready := ['ready' out] process. held := [w wait. 'held' out] process. idle := ['idle' out] process. over := [] process. held priority: 4; resume. ready resume. idle priority: 2. over terminate. "

// P24.1: each primitive of the table, of each value, and of each two of them.
func TestEachPrimitive(t *testing.T) {
	t.Parallel()
	patterns := map[string]string{}
	for _, line := range strings.Split(messages, "\n") {
		pattern, n, _ := strings.Cut(line, " = ")
		patterns[n] = pattern
	}
	tried := 0
	for n, pattern := range patterns {
		if len(n) < 2 || n < "3" || n >= "5" && n < "7" {
			continue
		}
		args := strings.Count(pattern, ":")
		for i, r := range pool() {
			var attempts []string
			if args == 0 {
				attempts = []string{r + " " + pattern}
			} else {
				for k, a := range pool() {
					others := []string{r, a, pool()[(i+k)%len(pool())], pool()[(i*7+k*3)%len(pool())]}
					attempts = append(attempts, others[0]+" "+filled(pattern, others[1:]))
				}
			}
			for len(attempts) > 0 { // a method has no more than 60 slots
				var b strings.Builder
				for _, x := range attempts[:min(8, len(attempts))] {
					b.WriteString("[(" + x + ") show. 'on' out] process priority: 5; resume. 'back' out. ")
				}
				attempts = attempts[min(8, len(attempts)):]
				each(t, setting+b.String()+"w signal. idle priority show. self yield. 'end' out")
			}
			tried++
		}
	}
	if tried < 20*len(pool()) {
		t.Errorf("the test tries too little: %d", tried)
	}
}

// filled: a pattern of keywords, with arguments.
func filled(pattern string, args []string) string {
	out := ""
	for i, keyword := range strings.SplitAfter(pattern, ":") {
		if i < strings.Count(pattern, ":") {
			out += strings.TrimLeft(strings.TrimPrefix(strings.TrimSpace(keyword), []string{"", "a", "b", "c"}[i]), " ") + " " + args[i] + " "
		}
	}
	return out
}

// each: a first method against the model.
func each(t *testing.T, text string) {
	t.Helper()
	o := Options{Input: []byte{1}, Ticks: []int{30, 90, 300}, Count: 7}
	file := start(text)
	m := machineOf(t, 60000, o, shows, file)
	end := m.Run(most)
	want := newModel(o, most, shows, file, library()).play()
	m.same(t, "P24.1: "+text, end, want)
	m.check(t, text)
	if t.Failed() {
		t.FailNow()
	}
}

// Numbers that no primitive has: they fail.
func TestNoPrimitive(t *testing.T) {
	var none []int
	for _, gap := range [][2]int{{18, 19}, {30, 33}, {37, 51}, {62, 69}, {71, 73}, {75, 76}, {78, 82}, {85, 89}, {93, 999}} {
		for n := gap[0]; n <= gap[1]; n++ {
			none = append(none, n)
		}
	}
	for len(none) > 0 {
		some := none[:min(100, len(none))]
		none = none[len(some):]
		methods, text, want := "Object methods! ", "", "on"
		for _, n := range some {
			methods += fmt.Sprintf("p%d <primitive: %d> 'f%d' out! ", n, n, n)
			text += fmt.Sprintf("self p%d. ", n)
			want = strings.TrimSuffix(want, "on") + fmt.Sprintf("f%d / on", n)
		}
		m := machineOf(t, 100000, Options{}, methods+"! ", start(text+"'on' out"))
		if end := m.Run(most); end != Done || lines(m.Events()) != want {
			t.Errorf("P24.1: %s:\n%s; want\n%s", names[end], lines(m.Events()), want)
		}
	}
}

// One more, or one less, argument than a primitive takes.
func TestOtherCounts(t *testing.T) {
	for _, line := range strings.Split(strings.TrimSpace(messages), "\n") {
		pattern, n, _ := strings.Cut(line, " = ")
		has := strings.Count(pattern, ":")
		if strings.HasPrefix(pattern, "+") || strings.HasPrefix(pattern, "-") || strings.HasPrefix(pattern, "<") || strings.HasPrefix(pattern, "==") || strings.HasPrefix(pattern, ",") {
			has = 1
		}
		for count := range 5 {
			if count == has {
				continue
			}
			keywords, sent := "odd", "odd"
			if count > 0 {
				keywords, sent = "", ""
				for i := range count {
					keywords += fmt.Sprintf("k%d: a%d ", i, i)
					sent += fmt.Sprintf("k%d: %s ", i, []string{"1", "#foo", "#()", "nil"}[i])
				}
			}
			file := fmt.Sprintf("Object methods! %s <primitive: %s> ^'failed' out! !", keywords, n)
			for _, r := range []string{"3", "[]", "[:u | u]", "self running", "(Semaphore new setup)", "'text'", "nil", "P", "self"} {
				m := machineOf(t, 30000, Options{Input: []byte{1}}, shows, file, start(r+" "+sent+". 'on' out"))
				if end := m.Run(most); end != Done || lines(m.Events()) != "failed / on" {
					t.Errorf("P24.1: primitive %s of %s with %d arguments: %s, %s", n, r, count, names[end], lines(m.Events()))
				}
			}
		}
	}
}
