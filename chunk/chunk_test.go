package chunk

import (
	"fmt"
	"math"
	"math/rand"
	"reflect"
	"slices"
	"strings"
	"testing"

	"foundling/api"
)

// shown: the beginning of it.
func shown(u Unit) string { return fmt.Sprintf("%.300q", fmt.Sprint(u)) }

// checkRead: is this what a file has?
func checkRead(t *testing.T, s string, want Unit) {
	t.Helper()
	if got, at, e := Read(s); !reflect.DeepEqual(got, want) || at != 0 || e != api.OK {
		t.Errorf("P12.1: Read(%.200q) = %s, %d, %d, want %s", s, shown(got), at, e, shown(want))
	}
}

// checkWrong: is this told?
func checkWrong(t *testing.T, s string, at int, e api.Errno) {
	t.Helper()
	if got, place, told := Read(s); !reflect.DeepEqual(got, Unit{}) || place != at || told != e {
		t.Errorf("P12.1: Read(%.200q) = %s, %d, %d, want %d at %d", s, shown(got), place, told, e, at)
	}
}

// classes, sources: a Unit of them alone.
func classes(list ...Class) Unit  { return Unit{Classes: list} }
func sources(list ...Source) Unit { return Unit{Sources: list} }

// P12.1

func TestExample(t *testing.T) {
	checkRead(t, "nil subclass: #Object fields: ''! Object methods! x ^1! !", Unit{[]Class{{"Object", "", nil, 0}}, []Source{{"Object", false, "x ^1", 50}}})
}

func TestClasses(t *testing.T) {
	long := strings.Repeat("n", 64)
	for s, c := range map[string]Class{
		"nil subclass: #A fields: ''!": {"A", "", nil, 0}, "B subclass: #A fields: ''!": {"A", "B", nil, 0}, " \n\tB subclass: #A fields: ''\r !": {"A", "B", nil, 3}, "nil subclass: #nil fields: ''!": {"nil", "", nil, 0}, "A subclass: #A fields: ''!": {"A", "A", nil, 0}, "Nil subclass: #A fields: ''!": {"A", "Nil", nil, 0},
		"B subclass: #A fields: 'a'!": {"A", "B", []string{"a"}, 0}, "B subclass: #A fields: 'a b1 C'!": {"A", "B", []string{"a", "b1", "C"}, 0}, "B subclass: #A fields: ' a'!": {"A", "B", []string{"a"}, 0}, "B subclass: #A fields: 'a '!": {"A", "B", []string{"a"}, 0}, "B subclass: #A fields: ' \t\n\ra \n b\t\tc\r'!": {"A", "B", []string{"a", "b", "c"}, 0}, "B subclass: #A fields: ' '!": {"A", "B", nil, 0}, "B subclass: #A fields: ' \t\r\n '!": {"A", "B", nil, 0},
		"B subclass: #A fields: 'a a'!": {"A", "B", []string{"a", "a"}, 0}, "B subclass: #A fields: 'self nil'!": {"A", "B", []string{"self", "nil"}, 0}, "B subclass: #A fields: '" + long + " a'!": {"A", "B", []string{long, "a"}, 0}, long + " subclass: #" + long + " fields: ''!": {long, long, nil, 0},
		"B subclass:#A fields:''!": {"A", "B", nil, 0}, "B\nsubclass:\n#A\nfields:\n''\n!": {"A", "B", nil, 0}, "\"n\" B\"n\"subclass: \"n\" #A fields: '' \"n\"!": {"A", "B", nil, 0}, "B subclass: #'A' fields: 'a'!": {"A", "B", []string{"a"}, 0}, "\"!!\" B subclass: #A fields: ''!": {"A", "B", nil, 0}, "B subclass: #A fields: '' \"a!!!!\"!": {"A", "B", nil, 0},
		"methods subclass: #class fields: 'fields'!": {"class", "methods", []string{"fields"}, 0},
	} {
		checkRead(t, s, classes(c))
		checkRead(t, s+" !\n", classes(c))
	}
	checkRead(t, "nil subclass: #A fields: ''!nil subclass: #B fields: 'a'! A subclass: #A fields: ''!", classes(Class{"A", "", nil, 0}, Class{"B", "", []string{"a"}, 28}, Class{"A", "A", nil, 58}))
	most := strings.Repeat("a ", 2048)
	checkRead(t, "B subclass: #A fields: '"+most+"'!", classes(Class{"A", "B", strings.Fields(most), 0}))
	checkWrong(t, " B subclass: #A fields: '"+most+" '!", 1, api.ErrSize)
}

// Chunks that are no class and no header.
func TestWrongChunks(t *testing.T) {
	long := strings.Repeat("n", 65)
	for s, e := range map[string]api.Errno{
		"x": 3, "3": 3, "'a'": 3, "#a": 3, "nil": 3, "\"n\"": 3, "!!": 3, "a !! b": 3, "!!a": 3, "a!!": 3, "!!!!": 3, ".": 3, "x ^1": 3, "\x00": 3, "\xff": 3, "\x0b": 3, "\xc2\xa0": 3, "_": 3,
		"B subclass:": 3, "B subclass: #A": 3, "B subclass: #A fields:": 3, "B subclass: #A fields: '' x": 3, "B subclass: #A fields: '' ''": 3, "B subclass: #A fields: 'a' 'b'": 3, "B subclass: #A fields: #a": 3, "B subclass: #A fields: a": 3, "B subclass: A fields: ''": 3, "B subclass: 'A' fields: ''": 3, "subclass: #A fields: ''": 3, "#B subclass: #A fields: ''": 3, "'B' subclass: #A fields: ''": 3, "B: subclass: #A fields: ''": 3, "B subclass #A fields: ''": 3, "B subClass: #A fields: ''": 3, "B subclass: #A Fields: ''": 3, "B subclass: #A field: ''": 3, "B fields: '' subclass: #A": 3, "B #subclass: #A fields: ''": 3, "B subclass: #A fields: '''": 4, "B subclass: # A fields: ''": 3, "B class subclass: #A fields: ''": 3,
		"B subclass: #a: fields: ''": 3, "B subclass: #a:b: fields: ''": 3, "B subclass: #+ fields: ''": 3, "B subclass: #| fields: ''": 3, "B subclass: #'' fields: ''": 3, "B subclass: #'a b' fields: ''": 3, "B subclass: #'1' fields: ''": 3, "B subclass: #'A ' fields: ''": 3, "B subclass: #'a:' fields: ''": 3, "B subclass: #'\xff' fields: ''": 3,
		"B subclass: #A fields: '1'": 3, "B subclass: #A fields: 'a 1b'": 3, "B subclass: #A fields: 'a: b'": 3, "B subclass: #A fields: 'a,b'": 3, "B subclass: #A fields: 'a +'": 3, "B subclass: #A fields: 'a.'": 3, "B subclass: #A fields: 'a''b'": 3, "B subclass: #A fields: 'a !! b'": 3, "B subclass: #A fields: 'a\x0bb'": 3, "B subclass: #A fields: 'a\x0cb'": 3, "B subclass: #A fields: 'a\xc2\xa0b'": 3, "B subclass: #A fields: 'a\xc2\x85b'": 3, "B subclass: #A fields: '\xff'": 3, "B subclass: #A fields: '\x00'": 3, "B subclass: #A fields: '" + long + "'": 3,
		"A method": 3, "A methods methods": 3, "A class": 3, "A class class methods": 3, "A class methods x": 3, "A classs methods": 3, "A Methods": 3, "methods": 3, "class": 3, "A methods.": 3, "A methods:": 3, "#A methods": 3, "A #methods": 3, "A 'methods'": 3, "A methodsclass": 3, "A methods class": 3, "A instance methods": 3, "A methods'": 4,
		"'": 4, "x '": 4, "\"": 4, "$": 4, "x 99999999999999999999": 9, "99999999999999999999": 9, long: 2, long + " methods": 2, "A " + long: 2, "#" + long: 2, "B subclass: #" + long + " fields: ''": 2, "B subclass: #A fields: '" + strings.Repeat("x", 4097) + "'": 2, "B subclass: #A fields: ''''": 3,
	} {
		checkWrong(t, s+"!", 0, e)
		checkWrong(t, " \n"+s+"\t! !", 2, e)
		checkWrong(t, "nil subclass: #A fields: ''!\n"+s+"! x", 29, e)
		checkWrong(t, "A methods! "+s+"! ! "+s+"! 'x! x", 11+len(s)+4, e)
		// Among methods all of this is a method.
		checkRead(t, "A methods! "+s+"! !", sources(Source{"A", false, strings.ReplaceAll(s, "!!", "!"), 11}))
	}
}

func TestMethods(t *testing.T) {
	a, meta := Source{"A", false, "x", 0}, Source{"A", true, "x", 0}
	at := func(place int, s Source) Source {
		s.At = place
		return s
	}
	for s, u := range map[string]Unit{
		"A methods!x! !": sources(at(10, a)), "A methods! x !\n!": sources(at(11, a)), "A class methods!x! !": sources(at(16, meta)), "\nA\tclass\rmethods !\r\n\tx ! ! ": sources(at(21, meta)), "A \"class\" methods!x! !": sources(at(18, a)), "\"n\"A methods\"n\"!x! !": sources(at(16, a)), "A methods! !": {}, "A methods!\n\n!": {}, "A class methods! !": {},
		"A methods!x!x! !": sources(at(10, a), at(12, a)), "A methods!x! !A methods!x! !": sources(at(10, a), at(24, a)), "A methods!x! ! ! A class methods!x! !": sources(at(10, a), at(33, meta)), "A methods!x! !A class methods!x! !": sources(at(10, a), at(30, meta)), "A methods! !A methods!x! !": sources(at(22, a)),
		"class methods!x! !": sources(Source{"class", false, "x", 14}), "class class methods!x! !": sources(Source{"class", true, "x", 20}), "methods methods!x! !": sources(Source{"methods", false, "x", 16}), "methods class methods!x! !": sources(Source{"methods", true, "x", 22}), "nil methods!x! !": sources(Source{"nil", false, "x", 12}),
		"A methods!A methods!x! !":                 sources(Source{"A", false, "A methods", 10}, at(20, a)),
		"A methods! !nil subclass: #A fields: ''!": classes(Class{"A", "", nil, 12}),
		"A methods!nil subclass: #A fields: ''! !": sources(Source{"A", false, "nil subclass: #A fields: ''", 10}),
		"A methods! x  \n y\t! !":                  sources(Source{"A", false, "x  \n y", 11}), "A methods! 'it ! !": sources(Source{"A", false, "'it", 11}), "A methods!\x00! !": sources(Source{"A", false, "\x00", 10}), "A methods!\x0b! !": sources(Source{"A", false, "\x0b", 10}), "A methods!\xff\xc2\xa0! !": sources(Source{"A", false, "\xff\xc2\xa0", 10}),
	} {
		checkRead(t, s, u)
	}
}

// Two ! are one of the chunk, from the left.
func TestMarks(t *testing.T) {
	for s, text := range map[string]string{
		"!!x": "!x", "x!!": "x!", "x!!y": "x!y", "!!": "!", "!!!!": "!!", "!!!!!!": "!!!", "!!x!!y!!": "!x!y!", "x !! y": "x ! y", "x!!!!y": "x!!y", "!! x": "! x", "x !!": "x !", "!! !!": "! !", "!!\n!!!!": "!\n!!",
	} {
		checkRead(t, "A methods!"+" "+s+"! !", sources(Source{"A", false, text, 11}))
		checkRead(t, "A methods! "+s+" !\n!", sources(Source{"A", false, text, 11}))
		checkRead(t, "A methods! "+s+"!"+" "+s+"! !", sources(Source{"A", false, text, 11}, Source{"A", false, text, 13 + len(s)}))
	}
	// Behind a chunk's own ! a second one is none of its own: both are the chunk's.
	checkWrong(t, "A methods!!x! !", 0, api.ErrForm)
	checkWrong(t, "A methods!!! !", 0, api.ErrForm)
	checkWrong(t, "A methods! x!!", 11, api.ErrEnd)
	checkWrong(t, "A methods! x! !!", 14, api.ErrEnd)
	checkWrong(t, "A methods! x!!!", 15, api.ErrEnd)
	checkWrong(t, "A methods! x!!!!", 11, api.ErrEnd)
	checkRead(t, "A methods! x!!! !", sources(Source{"A", false, "x!", 11}))
	checkRead(t, "!", Unit{})
	checkWrong(t, "!!", 0, api.ErrEnd)
	checkWrong(t, "!!!", 0, api.ErrForm)
	checkWrong(t, "!!!!", 0, api.ErrEnd)
	checkWrong(t, "!!!!!", 0, api.ErrForm)
	checkWrong(t, " !!", 1, api.ErrEnd)
	checkWrong(t, "! !!", 2, api.ErrEnd)
	checkWrong(t, "! !!!", 2, api.ErrForm)
}

func TestBlanks(t *testing.T) {
	for _, s := range []string{"", " ", " \t\n\r ", "!", " !", "! ", " ! ! \n!\t", "\n\n!\n! ! ! !\r"} {
		checkRead(t, s, Unit{})
		if blank := s + " "; len(blank) > 1 && strings.HasSuffix(s, "!") {
			checkRead(t, blank+"nil subclass: #A fields: ''! "+blank, classes(Class{"A", "", nil, len(blank)}))
			checkRead(t, blank+"A methods! x! ! "+blank, sources(Source{"A", false, "x", len(blank) + 11}))
		}
	}
	for _, c := range []struct {
		s  string
		at int
	}{
		{"x", 0}, {" \n x", 3}, {"nil subclass: #A fields: ''", 0}, {"! x", 2}, {"nil subclass: #A fields: ''! x y", 29}, {"nil subclass: #A fields: ''!'", 28}, {"A methods! x! ! y", 16}, {"\x0b", 0}, {" \x00 ", 1}, {"\xc2\xa0", 0}, {"! !\x00", 3}, {" !! ", 1},
		{"A methods!", 10}, {"A methods! ", 11}, {"A methods!\n\n", 12}, {"A methods! x!", 13}, {"A methods! x! y!\n", 17}, {"A methods! x", 11}, {"A methods! x! y", 14}, {"A class methods! x!", 19}, {"A methods! x! ! A methods!", 26}, {"A methods! x! !!", 14},
	} {
		checkWrong(t, c.s, c.at, api.ErrEnd)
	}
}

func TestSize(t *testing.T) {
	for _, piece := range []string{" ", "!", "\n"} {
		if piece != "!" {
			checkRead(t, strings.Repeat(piece, 65536), Unit{})
		}
		for _, more := range []int{1, 2, 70000} {
			checkWrong(t, strings.Repeat(piece, 65536+more), 0, api.ErrSize)
		}
	}
	checkWrong(t, "x! "+strings.Repeat("x", 65534), 0, api.ErrSize)
	checkWrong(t, "x! "+strings.Repeat("x", 65533), 0, api.ErrForm)
	checkWrong(t, strings.Repeat("!", 65536), 0, api.ErrEnd)
	text := strings.Repeat("x", 65536-14)
	checkRead(t, "A methods! "+text+"! !", sources(Source{"A", false, text, 11}))
	checkWrong(t, "A methods! "+text+"! ! ", 0, api.ErrSize)
	marks := strings.Repeat("!", (65536-14)/2)
	checkRead(t, "A methods! "+marks+marks+"! !", sources(Source{"A", false, marks, 11}))
	checkRead(t, strings.Repeat("! ", 32768), Unit{})
	names := strings.Repeat("nil subclass: #A fields: ''!", 2340)
	if u, _, e := Read(names); e != api.OK || len(u.Classes) != 2340 || u.Classes[2339].At != 2339*28 {
		t.Errorf("P12.1: Read of 2340 classes: %d, %d", len(u.Classes), e)
	}
}

// checkModel: as the model has it.
func checkModel(t *testing.T, s string) api.Errno {
	t.Helper()
	u, at, e := modelRead(s)
	got, place, told := Read(s)
	if !reflect.DeepEqual(got, u) || place != at || told != e {
		t.Fatalf("P12.1: Read(%.300q) = %s, %d, %d, want %s, %d, %d", s, shown(got), place, told, shown(u), at, e)
	}
	return e
}

func TestModel(t *testing.T) {
	r := rand.New(rand.NewSource(12))
	told := map[api.Errno]int{}
	for range 60000 {
		s := soup(r)
		told[checkModel(t, s)]++
		if len(s) > 0 {
			i := r.Intn(len(s))
			told[checkModel(t, s[:i]+pick(r, "!", " ", "x", "'", "\n", "")+s[i+r.Intn(2):])]++
		}
	}
	for _, e := range []api.Errno{api.OK, api.ErrForm, api.ErrEnd} {
		if told[e] < 1000 {
			t.Errorf("P12.1: chance has told %d only %d times", e, told[e])
		}
	}
}

// A file that is cut at each byte, and of which each byte is each other one.
func TestBytes(t *testing.T) {
	s := " nil subclass: #Object fields: ''!\nObject subclass: #A fields: 'a b'!\n !\nA methods!\n+ x ^'a!!'!\n foo \"!!\"!!! !\nA class methods! new ^1!!\n!! !\n!"
	for i := range len(s) + 1 {
		checkModel(t, s[:i])
		checkModel(t, s[i:])
	}
	for i := range len(s) {
		for c := range 256 {
			b := []byte(s)
			b[i] = byte(c)
			checkModel(t, string(b))
		}
	}
	for c := range 256 {
		one := string([]byte{byte(c)})
		checkModel(t, one)
		checkModel(t, one+"!")
		checkModel(t, "A methods!"+one+"! !")
		checkModel(t, "A subclass: #B fields: 'a"+one+"b'!")
	}
}

// P12.2

// checkWrite: is this the file?
func checkWrite(t *testing.T, u Unit, want string) {
	t.Helper()
	if got, e := Write(u); got != want || e != api.OK {
		t.Errorf("P12.2: Write(%s) = %.200q, %d, want %.200q", shown(u), got, e, want)
	}
	checkBack(t, u)
}

// checkBack: is what is written read as the same, but for At?
func checkBack(t *testing.T, u Unit) {
	t.Helper()
	s, _ := Write(u)
	back, at, e := Read(s)
	if e != api.OK || !reflect.DeepEqual(bare(back), bare(u)) {
		t.Errorf("P12.2: %s is written %.200q, and read as %s, %d at %d", shown(u), s, shown(back), e, at)
	}
	for _, c := range back.Classes {
		if !strings.HasPrefix(s[c.At:], c.Super) || c.At > 0 && s[c.At-2:c.At] != "!\n" {
			t.Errorf("P12.2: %.200q: the class at %d", s, c.At)
		}
	}
}

// checkRefused: is this told of a Unit?
func checkRefused(t *testing.T, u Unit, want api.Errno) {
	t.Helper()
	if got, e := Write(u); got != "" || e != want {
		t.Errorf("P12.2: Write(%s) = %.200q, %d, want %d", shown(u), got, e, want)
	}
}

// bare: without At, and with lists of their own.
func bare(u Unit) Unit {
	var out Unit
	for _, c := range u.Classes {
		c.At, c.Fields = 0, append([]string{}, c.Fields...)
		out.Classes = append(out.Classes, c)
	}
	for _, s := range u.Sources {
		s.At = 0
		out.Sources = append(out.Sources, s)
	}
	return out
}

func TestWrite(t *testing.T) {
	a, meta, b := Source{"A", false, "x ^1", 7}, Source{"A", true, "x", -7}, Source{"B", false, "y", 0}
	checkWrite(t, Unit{}, "")
	checkWrite(t, Unit{[]Class{}, []Source{}}, "")
	checkWrite(t, classes(Class{"A", "", nil, 5}), "nil subclass: #A fields: ''!\n")
	checkWrite(t, classes(Class{"A", "B", []string{"a"}, 5}, Class{"nil", "A", []string{"a", "b", "a"}, -5}, Class{"A", "Nil", []string{}, 0}), "B subclass: #A fields: 'a'!\nA subclass: #nil fields: 'a b a'!\nNil subclass: #A fields: ''!\n")
	checkWrite(t, sources(a), "A methods!\nx ^1!\n !\n")
	checkWrite(t, sources(meta), "A class methods!\nx!\n !\n")
	checkWrite(t, sources(a, a), "A methods!\nx ^1!\nx ^1!\n !\n")
	checkWrite(t, sources(a, meta), "A methods!\nx ^1!\n !\nA class methods!\nx!\n !\n")
	checkWrite(t, sources(a, b), "A methods!\nx ^1!\n !\nB methods!\ny!\n !\n")
	checkWrite(t, sources(a, b, a, a, meta, a), "A methods!\nx ^1!\n !\nB methods!\ny!\n !\nA methods!\nx ^1!\nx ^1!\n !\nA class methods!\nx!\n !\nA methods!\nx ^1!\n !\n")
	checkWrite(t, Unit{[]Class{{"A", "", nil, 0}}, []Source{a}}, "nil subclass: #A fields: ''!\nA methods!\nx ^1!\n !\n")
	checkWrite(t, sources(Source{"class", false, "x", 0}, Source{"class", true, "x", 0}, Source{"methods", false, "x", 0}, Source{"nil", true, "x", 0}), "class methods!\nx!\n !\nclass class methods!\nx!\n !\nmethods methods!\nx!\n !\nnil class methods!\nx!\n !\n")
	for text, want := range map[string]string{"!": "!!", "!!": "!!!!", "!x": "!!x", "x!": "x!!", "x!y": "x!!y", "!x!!y!": "!!x!!!!y!!", "! !": "!! !!", "x\n\ty": "x\n\ty", "A methods": "A methods", "\x00": "\x00", "\xff\x0b": "\xff\x0b", "'": "'"} {
		s := Source{"A", false, text, 3}
		checkWrite(t, sources(s), "A methods!\n"+want+"!\n !\n")
		checkWrite(t, sources(s, s), "A methods!\n"+want+"!\n"+want+"!\n !\n")
	}
}

func TestWriteForm(t *testing.T) {
	long := strings.Repeat("n", 64)
	checkWrite(t, Unit{[]Class{{long, long, []string{long}, 0}}, []Source{{long, true, "x", 0}}}, long+" subclass: #"+long+" fields: '"+long+"'!\n"+long+" class methods!\nx!\n !\n")
	for _, name := range []string{"", "1", "a b", " a", "a ", "a:", "a:b:", "+", "|", "a!", "a_b", "\xff", "a\x00", "é", long + "n"} {
		checkRefused(t, classes(Class{name, "A", nil, 0}), api.ErrForm)
		checkRefused(t, classes(Class{"A", "B", []string{name}, 0}), api.ErrForm)
		checkRefused(t, classes(Class{"A", "B", []string{"a", name, "b"}, 0}, Class{"A", "B", nil, 0}), api.ErrForm)
		checkRefused(t, sources(Source{name, false, "x", 0}), api.ErrForm)
		checkRefused(t, sources(Source{"A", false, "x", 0}, Source{name, true, "x", 0}), api.ErrForm)
		if name != "" {
			checkRefused(t, classes(Class{"A", name, nil, 0}), api.ErrForm)
		}
	}
	checkRefused(t, classes(Class{"A", "nil", nil, 0}), api.ErrForm)
	checkRefused(t, classes(Class{"A", "", nil, 0}, Class{"B", "nil", nil, 0}), api.ErrForm)
	for _, text := range []string{"", " ", "\n", " \t\r\n", " x", "x ", "\nx", "x\n", "\tx", "x\t", "\rx", "x\r", " !", "! ", "x! \n"} {
		checkRefused(t, sources(Source{"A", false, text, 0}), api.ErrForm)
		checkRefused(t, sources(Source{"A", false, "x", 0}, Source{"A", false, text, 0}, Source{"A", false, "x", 0}), api.ErrForm)
	}
}

func TestWriteSize(t *testing.T) {
	around := len("A methods!\n" + "!\n" + " !\n")
	for _, more := range []int{-1, 0, 1, 2, 70000} {
		good := more <= 0
		check := func(u Unit) {
			t.Helper()
			s, e := Write(u)
			if good && (e != api.OK || len(s) > 65536) || !good && (e != api.ErrSize || s != "") {
				t.Errorf("P12.2: Write of %d bytes more: %d bytes, %d", more, len(s), e)
			}
			if good {
				checkBack(t, u)
			}
			bad := Unit{append(slices.Clone(u.Classes), Class{"", "A", nil, 0}), slices.Clone(u.Sources)}
			want := api.ErrForm
			if len(s) == 0 || len(s)+len("A subclass: # fields: ''!\n") > 65536 {
				want = api.ErrSize
			}
			checkRefused(t, bad, want)
		}
		check(sources(Source{"A", false, strings.Repeat("x", 65536-around+more), 0}))
		check(sources(Source{"A", false, strings.Repeat("!", 1000) + strings.Repeat("x", 65536-around-2000+more), 0}))
		check(sources(Source{"A", false, "x", 0}, Source{"A", false, strings.Repeat("x", 65536-around-3+more), 0}))
		check(sources(Source{"A", false, "x", 0}, Source{"B", false, strings.Repeat("x", 65536-2*around-1+more), 0}))
		list := slices.Repeat([]Class{{"A", "", nil, 0}}, 2000)
		check(Unit{list, []Source{{"A", false, strings.Repeat("x", 65536-2000*29-around+more), 0}}})
		check(classes(append(slices.Repeat([]Class{{"A", "", nil, 0}}, 2258), Class{"A" + strings.Repeat("a", max(0, 25+more)), "", nil, 0})...))
	}
	big := strings.Repeat("x", 1<<20)
	checkRefused(t, sources(Source{"", false, big, 0}), api.ErrSize)
	checkRefused(t, sources(Source{"A", false, " " + big, 0}), api.ErrSize)
	checkRefused(t, sources(Source{big, false, "x", 0}), api.ErrSize)
	checkRefused(t, classes(Class{"A", "nil", []string{big}, 0}), api.ErrSize)
	checkRefused(t, classes(Class{big, "A", nil, 0}), api.ErrSize)
	checkRefused(t, classes(Class{"A", big, nil, 0}), api.ErrSize)
	checkRefused(t, Unit{slices.Repeat([]Class{{"A", "", nil, 0}}, 1<<16), slices.Repeat([]Source{{"A", false, "x", 0}}, 1<<16)}, api.ErrSize)
	// Of fields that fill more than a Text of layer 9 there is no file.
	checkBack(t, classes(Class{"A", "B", append(strings.Fields(strings.Repeat("aaa ", 1023)), "aaaa"), 0}))
	checkRefused(t, classes(Class{"A", "B", append(strings.Fields(strings.Repeat("aaa ", 1023)), "aaaaa"), 0}), api.ErrSize)
}

// fieldsOfBytes: names that fill so many bytes together, with the blanks between, from a first one on.
func fieldsOfBytes(first string, n int) []string {
	list := []string{first}
	for n -= len(first); n > 0; {
		name := strings.Repeat("a", min(64, max(1, n-1)))
		if left := n - 1 - len(name); left == 1 { // a blank alone would be left
			name = name[1:]
		}
		list = append(list, name)
		n -= 1 + len(name)
	}
	return list
}

// A name that is none is ErrForm wherever it stands, as long as the file isn't too great, however much the fields fill.
func TestWriteFormAmongLongFields(t *testing.T) {
	around := len("B subclass: #A fields: ''!\n" + "C methods!\n" + "x!\n" + " !\n")
	for _, n := range []int{100, 4095, 4096, 4097, 4098, 8192, 65536 - around - 1, 65536 - around, 65536 - around + 1, 70000} {
		good := Unit{[]Class{{"A", "B", fieldsOfBytes("a", n), 0}}, []Source{{"C", false, "x", 0}}}
		if got := len(strings.Join(good.Classes[0].Fields, " ")); got != n {
			t.Fatalf("fields of %d bytes, want %d", got, n)
		}
		if n <= 4096 {
			checkBack(t, good)
		} else {
			checkRefused(t, good, api.ErrSize)
		}
		want := api.ErrForm
		if n > 65536-around {
			want = api.ErrSize
		}
		for at := range 7 {
			bad := Unit{[]Class{{"A", "B", slices.Clone(good.Classes[0].Fields), 0}}, slices.Clone(good.Sources)}
			c, s := &bad.Classes[0], &bad.Sources[0]
			switch at { // each with as many bytes as ahead
			case 0:
				c.Name = "1"
			case 1:
				c.Super = "+"
			case 2:
				c.Fields[0] = "1"
			case 3:
				c.Fields[len(c.Fields)-1] = "1" + c.Fields[len(c.Fields)-1][1:]
			case 4:
				s.Class = "!"
			case 5:
				s.Text = " "
			case 6:
				c.Fields = []string{strings.Repeat("a", n)}
			}
			checkRefused(t, bad, want)
		}
	}
}

func TestWriteModel(t *testing.T) {
	r := rand.New(rand.NewSource(122))
	told := map[api.Errno]int{}
	for range 40000 {
		u := someUnit(r)
		want, e := modelWrite(u)
		told[e]++
		if e != api.OK {
			checkRefused(t, u, e)
		} else {
			checkWrite(t, u, want)
		}
		if t.Failed() {
			return
		}
	}
	if told[api.OK] < 1000 || told[api.ErrForm] < 1000 {
		t.Errorf("P12.2: chance has told: %v", told)
	}
}

// What is read of any file is written so that it is read again.
func TestReadWrite(t *testing.T) {
	r := rand.New(rand.NewSource(123))
	for range 20000 {
		if u, _, e := Read(soup(r)); e == api.OK {
			checkBack(t, u)
		}
	}
}

// P12.3

func TestPlace(t *testing.T) {
	for _, c := range []struct {
		text        string
		at, i, want int
	}{
		{"abc", 10, 0, 10}, {"abc", 10, 2, 12}, {"abc", 10, 3, 13}, {"abc", 10, 4, 13}, {"abc", 10, math.MaxInt, 13}, {"abc", 10, -1, 10}, {"abc", 10, math.MinInt, 10}, {"", 5, 0, 5}, {"", 5, 1, 5}, {"", 5, -1, 5}, {"", 0, 0, 0},
		{"a!b", 10, 0, 10}, {"a!b", 10, 1, 11}, {"a!b", 10, 2, 13}, {"a!b", 10, 3, 14}, {"a!b", 10, 9, 14}, {"!", 0, 0, 0}, {"!", 0, 1, 2}, {"!!", 0, 1, 2}, {"!!", 0, 2, 4}, {"!!a", 7, 2, 11}, {"!!a", 7, -3, 7}, {"a!", 3, 2, 6}, {"x", -4, 1, -3},
	} {
		if got := Place(Source{Text: c.text, At: c.at, Class: "!", Meta: true}, c.i); got != c.want {
			t.Errorf("P12.3: Place of %d in %q at %d = %d, want %d", c.i, c.text, c.at, got, c.want)
		}
	}
	for _, i := range []int{0, 1, 2, 3} {
		Place(Source{Text: "!!", At: math.MaxInt}, i)
		Place(Source{Text: "!!", At: math.MinInt}, i)
	}
}

// Each byte of each Text that is read stands at its place.
func TestPlaceModel(t *testing.T) {
	r := rand.New(rand.NewSource(124))
	count := 0
	for range 20000 {
		s := soup(r)
		u, _, e := Read(s)
		if e != api.OK {
			continue
		}
		for _, x := range u.Sources {
			at := x.At
			for i := range len(x.Text) {
				if got := Place(x, i); got != at || s[at] != x.Text[i] {
					t.Fatalf("P12.3: in %q byte %d of %q is at %d, want %d", s, i, x.Text, got, at)
				}
				at++
				if x.Text[i] == '!' {
					at, count = at+1, count+1
				}
			}
			if got := Place(x, len(x.Text)); got != at || strings.Trim(s[at:strings.Index(s[at:], "!")+at], " \t\n\r") != "" {
				t.Fatalf("P12.3: in %q the end of %q is at %d, want %d", s, x.Text, got, at)
			}
		}
	}
	if count < 100 {
		t.Errorf("P12.3: only %d marks", count)
	}
}

// P12.4

// roomy: a Unit with spare room, which is filled.
func roomy(u Unit) Unit {
	out := Unit{make([]Class, 0, len(u.Classes)+2), make([]Source, 0, len(u.Sources)+2)}
	for _, c := range u.Classes {
		c.Fields = append(append(make([]string, 0, len(c.Fields)+2), c.Fields...), "spare", "spare")[:len(c.Fields)]
		out.Classes = append(out.Classes, c)
	}
	out.Sources = append(out.Sources, u.Sources...)
	spoilSpare(out.Classes, Class{Name: "spare", Fields: []string{"spare"}})
	spoilSpare(out.Sources, Source{Class: "spare"})
	return out
}

func spoilSpare[T any](list []T, x T) {
	spare := list[len(list):cap(list)]
	for i := range spare {
		spare[i] = x
	}
}

// whole: a Unit with all its spare room.
func whole(u Unit) Unit {
	out := Unit{slices.Clone(u.Classes[:cap(u.Classes)]), slices.Clone(u.Sources[:cap(u.Sources)])}
	for i, c := range out.Classes {
		out.Classes[i].Fields = slices.Clone(c.Fields[:cap(c.Fields)])
	}
	return out
}

func TestMemory(t *testing.T) {
	r := rand.New(rand.NewSource(125))
	for range 3000 {
		u := roomy(someUnit(r))
		before := whole(u)
		first, _ := Write(u)
		second, _ := Write(u)
		for _, s := range u.Sources {
			Place(s, 1)
		}
		if first != second || !reflect.DeepEqual(before, whole(u)) {
			t.Fatalf("P12.4: Write has changed %s", shown(u))
		}
	}
	for range 3000 {
		s := soup(r)
		a, _, _ := Read(s)
		b, _, _ := Read(s)
		want := bare(b)
		// What is done to one list, and to its spare room, shows in no other one.
		for i := range a.Classes {
			rest := bare(Unit{Classes: a.Classes[i+1:]})
			fields := a.Classes[i].Fields
			spoilSpare(fields[:0], "spoilt")
			if !reflect.DeepEqual(rest, bare(Unit{Classes: a.Classes[i+1:]})) {
				t.Fatalf("P12.4: lists of fields of %q share memory", s)
			}
		}
		spoilSpare(a.Classes[:0], Class{Name: "spoilt"})
		spoilSpare(a.Sources[:0], Source{Class: "spoilt"})
		c, _, _ := Read(s)
		if !reflect.DeepEqual(bare(b), want) || !reflect.DeepEqual(b, c) {
			t.Fatalf("P12.4: Read(%q) = %s, and then %s", s, shown(b), shown(c))
		}
	}
}

// Great files, of what may be repeated: each call ends.
func TestGreat(t *testing.T) {
	for _, piece := range []string{"!", " ", "!!", "! ", "x", "x!", "'", "\"", "A methods! ", "A methods! !", "A methods! x! !", "nil subclass: #A fields: ''!", "\x00", "#", "a:", "$!", "!x"} {
		for _, size := range []int{65536, 1 << 20} {
			s := strings.Repeat(piece, size/len(piece))
			checkModel(t, s)
			checkModel(t, "A methods! "+s)
		}
	}
	Place(Source{Text: strings.Repeat("!", 1<<20)}, 1<<20)
}
