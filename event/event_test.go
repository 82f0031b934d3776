package event

import (
	"bytes"
	"fmt"
	"hash/crc32"
	"math"
	"math/rand"
	"slices"
	"strings"
	"testing"

	"foundling/api"
	"foundling/vm"
)

func TestTextByHand(t *testing.T) {
	for _, x := range []struct {
		list []vm.Event
		want string
	}{
		{nil, ""},
		{[]vm.Event{{Kind: vm.Out, Bytes: []byte("hi\n")}}, "out \"hi\\0a\"\n"},
		{[]vm.Event{{Kind: vm.Out}}, "out \"\"\n"},
		{[]vm.Event{{Kind: vm.Out, Bytes: []byte{}, Name: "not shown"}}, "out \"\"\n"},
		{[]vm.Event{{Kind: vm.Fault, Name: "doesNotUnderstand: foo", Bytes: []byte("not shown")}}, "fault \"doesNotUnderstand: foo\"\n"},
		{[]vm.Event{{Kind: vm.Fault}}, "fault \"\"\n"},
		{[]vm.Event{{Kind: vm.Saved}}, "saved\n"},
		{[]vm.Event{{Kind: vm.Saved, Bytes: []byte("x"), Name: "y"}}, "saved\n"},
		{[]vm.Event{{}, {Kind: 4, Bytes: []byte("x")}, {Kind: -1, Name: "y"}, {Kind: math.MaxInt}, {Kind: math.MinInt}}, "?\n?\n?\n?\n?\n"},
		{[]vm.Event{{Kind: vm.Saved}, {Kind: vm.Out, Bytes: []byte("\x00\x1f !\"#[\\]~\x7f\x80\xfe\xff")}, {Kind: vm.Saved}}, "saved\nout \"\\00\\1f !\\22#[\\5c]~\\7f\\80\\fe\\ff\"\nsaved\n"},
	} {
		if got := Text(x.list...); got != x.want {
			t.Errorf("P25.1: Text(%v) = %q, want %q", x.list, got, x.want)
		}
	}
}

// Each byte, alone and between others, in an Out and in a Fault.
func TestEachByte(t *testing.T) {
	for c := range 256 {
		as := string([]byte{byte(c)})
		if c == '"' || c == '\\' || c < 32 || c > 126 {
			as = fmt.Sprintf("\\%02x", c)
		}
		for _, text := range []string{"", "a", "4", "\\"} {
			mark := quoteOf(text)
			mark = mark[1 : len(mark)-1]
			b := text + string([]byte{byte(c)}) + text
			want := `"` + mark + as + mark + "\"\n"
			list := []vm.Event{{Kind: vm.Out, Bytes: []byte(b)}, {Kind: vm.Fault, Name: b}}
			got := Text(list...)
			if got != "out "+want+"fault "+want {
				t.Errorf("P25.1: Text of byte %d: %q", c, got)
			}
			back, at, e := Parse(got)
			if e != api.OK || at != 0 || len(back) != 2 || back[0].Kind != vm.Out || string(back[0].Bytes) != b || back[0].Name != "" || back[1].Kind != vm.Fault || back[1].Name != b || back[1].Bytes != nil {
				t.Errorf("P25.1: Parse(%q) = %v, %d, %d", got, back, at, e)
			}
		}
	}
}

func TestParseByHand(t *testing.T) {
	for _, x := range []struct {
		s    string
		want string // of the events
		at   int
		e    api.Errno
	}{
		{"", "", 0, api.OK},
		{"saved\n", "S", 0, api.OK},
		{"out \"\"\nfault \"\"\n", "O() F()", 0, api.OK},
		{"out \"a b\"\nsaved\nfault \"\\22\\5c\"\nout \"\\0a\"\n", "O(a b) S F(\"\\) O(\n)", 0, api.OK},
		{"\n", "", 0, api.ErrForm},
		{"saved\n\n", "", 1, api.ErrForm},
		{"saved\n\nsaved\n", "", 1, api.ErrForm},
		{"?\n", "", 0, api.ErrForm},
		{"saved\n?\n", "", 1, api.ErrForm},
		{"saved", "", 0, api.ErrEnd},
		{"saved\nsaved", "", 1, api.ErrEnd},
		{"saved\nout \"\"", "", 1, api.ErrEnd},
		{"saved\nsaved\nfault \"x\"", "", 2, api.ErrEnd},
		{"saved\nx\nsaved", "", 1, api.ErrForm},
		{"saved\nx", "", 1, api.ErrForm},
		{"saved\nout \"x", "", 1, api.ErrForm},
		{"?", "", 0, api.ErrForm},
		{"saved\nx\nsaved\ny\n", "", 1, api.ErrForm},
		{" saved\n", "", 0, api.ErrForm},
		{"saved \n", "", 0, api.ErrForm},
		{"saved\r\n", "", 0, api.ErrForm},
		{"Saved\n", "", 0, api.ErrForm},
		{"save\n", "", 0, api.ErrForm},
		{"saved \"\"\n", "", 0, api.ErrForm},
		{"savedsaved\n", "", 0, api.ErrForm},
		{"saved\x00\n", "", 0, api.ErrForm},
		{"out\n", "", 0, api.ErrForm},
		{"out \n", "", 0, api.ErrForm},
		{"out \"\n", "", 0, api.ErrForm},
		{"out x\n", "", 0, api.ErrForm},
		{"out \"\"\"\n", "", 0, api.ErrForm},
		{"out \"a\"b\"\n", "", 0, api.ErrForm},
		{"out \"a\" \n", "", 0, api.ErrForm},
		{"out \"a\"b\n", "", 0, api.ErrForm},
		{"out  \"a\"\n", "", 0, api.ErrForm},
		{"out\t\"a\"\n", "", 0, api.ErrForm},
		{"out\"a\"\n", "", 0, api.ErrForm},
		{"out a\"\n", "", 0, api.ErrForm},
		{"out \"a\nb\"\n", "", 0, api.ErrForm},
		{"OUT \"a\"\n", "", 0, api.ErrForm},
		{"faults \"a\"\n", "", 0, api.ErrForm},
		{"fault\n", "", 0, api.ErrForm},
		{"fault \"\\\"\n", "", 0, api.ErrForm},
		{"fault \"\\2\"\n", "", 0, api.ErrForm},
		{"fault \"\\0\"\n", "", 0, api.ErrForm},
		{"fault \"\\0A\"\n", "", 0, api.ErrForm},
		{"fault \"\\0g\"\n", "", 0, api.ErrForm},
		{"fault \"\\g0\"\n", "", 0, api.ErrForm},
		{"fault \"\\\\\"\n", "", 0, api.ErrForm},
		{"fault \"\\n\"\n", "", 0, api.ErrForm},
		{"fault \"\\x0a\"\n", "", 0, api.ErrForm},
		{"fault \"\\20\"\n", "", 0, api.ErrForm},
		{"fault \"\\7e\"\n", "", 0, api.ErrForm},
		{"fault \"\x7f\"\n", "", 0, api.ErrForm},
		{"fault \"\xc3\xa4\"\n", "", 0, api.ErrForm},
		{"fault \"\t\"\n", "", 0, api.ErrForm},
	} {
		list, at, e := Parse(x.s)
		if said(list) != x.want || at != x.at || e != x.e {
			t.Errorf("P25.1: Parse(%q) = %s, %d, %d; want %s, %d, %d", x.s, said(list), at, e, x.want, x.at, x.e)
		}
	}
}

// said: events as a text, in another way.
func said(list []vm.Event) string {
	var words []string
	for _, x := range list {
		switch x.Kind {
		case vm.Out:
			words = append(words, "O("+string(x.Bytes)+")")
		case vm.Fault:
			words = append(words, "F("+x.Name+")")
		case vm.Saved:
			words = append(words, "S")
		default:
			words = append(words, fmt.Sprint(x.Kind))
		}
		if hidden(x) {
			words = append(words, "with what isn't shown")
		}
	}
	return strings.Join(words, " ")
}

// Each byte quoted by two digits, of which the great ones are none.
func TestQuotedOtherwise(t *testing.T) {
	const all = "0123456789abcdefABCDEFgG \"\\"
	for _, high := range all {
		for _, low := range all {
			check(t, fmt.Sprintf("out \"\\%c%c\"\n", high, low))
			check(t, fmt.Sprintf("saved\nfault \"x\\%c%cy\"\n", high, low))
		}
	}
	for c := range 256 {
		check(t, "out \""+string([]byte{byte(c)})+"\"\n")
		check(t, "fault \"\\"+string([]byte{byte(c)})+"\"\n")
		check(t, "fault \"\\"+string([]byte{byte(c)})+"a\"\n")
	}
}

// check: Parse, against the plain model; and what is taken is what Text writes of it.
func check(t *testing.T, s string) bool {
	t.Helper()
	list, at, e := Parse(s)
	want, wantAt, wantE := parsed(s)
	if !allSame(list, want) || at != wantAt || e != wantE || slices.ContainsFunc(list, hidden) || e != api.OK && list != nil {
		t.Errorf("P25.1: Parse(%q) = %s, %d, %d; want %s, %d, %d", s, said(list), at, e, said(want), wantAt, wantE)
	}
	if e == api.OK && Text(list...) != s {
		t.Errorf("P25.1: %q is taken, but written as %q", s, Text(list...))
	}
	return e == api.OK
}

// Lines cut at each place, with one byte put in, taken out, changed.
func TestSpoiltLines(t *testing.T) {
	const bytes = "\n\"\\ a0fgst?F\x00\xff"
	for _, s := range []string{
		"out \"hi\\0a\"\n", "fault \"x: \\22\"\n", "saved\n", "out \"\"\n", "saved\nsaved\n", "out \"a\\5c00\"\nsaved\nfault \"\\80b\"\n",
	} {
		if !check(t, s) {
			t.Errorf("P25.1: %q isn't taken", s)
		}
		for i := range len(s) {
			check(t, s[:i])
			check(t, s[i:])
			check(t, s[:i]+s[i+1:])
			for c := range len(bytes) {
				check(t, s[:i]+bytes[c:c+1]+s[i:])
				check(t, s[:i]+bytes[c:c+1]+s[i+1:])
				check(t, s+s[:i]+bytes[c:c+1])
			}
		}
	}
}

// Lists by chance: Text against the plain model, and back.
func TestTextByChance(t *testing.T) {
	r := rand.New(rand.NewSource(1))
	for range 5000 {
		list := someEvents(r)
		s := Text(list...)
		if s != wanted(list...) {
			t.Fatalf("P25.1: Text(%v) = %q, want %q", list, s, wanted(list...))
		}
		back, at, e := Parse(s)
		if e != api.OK || at != 0 || !allSame(back, list) || slices.ContainsFunc(back, hidden) {
			t.Fatalf("P25.1: Parse(%q) = %v, %d, %d; want %v", s, back, at, e, list)
		}
		b := []byte(s)
		for range r.Intn(3) {
			if len(b) > 0 {
				b[r.Intn(len(b))] = "\n\"\\ a0gstu?"[r.Intn(11)]
			}
		}
		check(t, string(b))
	}
}

// Any bytes: told at once, and none of them panics.
func TestAnyBytes(t *testing.T) {
	r := rand.New(rand.NewSource(2))
	words := []string{"out ", "fault ", "saved", "\"", "\"\n", "\n", "\\", "\\0a", "\\22", "x", " ", "?", "\xff"}
	taken := 0
	for range 20000 {
		s := ""
		for range r.Intn(8) {
			s += words[r.Intn(len(words))]
		}
		if check(t, s) {
			taken++
		}
		b := make([]byte, r.Intn(20))
		r.Read(b)
		check(t, string(b))
	}
	if taken < 1000 {
		t.Errorf("the test tries too little: %d", taken)
	}
	check(t, strings.Repeat("saved\n", 40000))
	check(t, strings.Repeat("saved\n", 40000)+"x")
	check(t, "out \""+strings.Repeat("\\00a", 40000)+"\"\n")
}

func TestPrefixByHand(t *testing.T) {
	a := vm.Event{Kind: vm.Out, Bytes: []byte("a")}
	f := vm.Event{Kind: vm.Fault, Name: "a"}
	s := vm.Event{Kind: vm.Saved}
	for _, x := range []struct {
		a, b []vm.Event
		want int
	}{
		{nil, nil, 0},
		{nil, []vm.Event{a}, 0},
		{[]vm.Event{}, nil, 0},
		{[]vm.Event{a}, []vm.Event{a}, 1},
		{[]vm.Event{a}, []vm.Event{a, a}, 1},
		{[]vm.Event{a, f, s}, []vm.Event{a, f, s}, 3},
		{[]vm.Event{a, f, s}, []vm.Event{a, f, a}, 2},
		{[]vm.Event{a, f, s}, []vm.Event{a, s, s}, 1},
		{[]vm.Event{a, f, s}, []vm.Event{s, f, s}, 0},
		{[]vm.Event{a}, []vm.Event{f}, 0},
		{[]vm.Event{{Kind: vm.Out}}, []vm.Event{{Kind: vm.Out, Bytes: []byte{}}}, 1},
		{[]vm.Event{{Kind: vm.Out, Name: "x"}}, []vm.Event{{Kind: vm.Out, Name: "y"}}, 1},
		{[]vm.Event{{Kind: vm.Fault, Bytes: []byte("x")}}, []vm.Event{{Kind: vm.Fault}}, 1},
		{[]vm.Event{{Kind: vm.Saved, Bytes: []byte("x"), Name: "y"}}, []vm.Event{s}, 1},
		{[]vm.Event{{Kind: 7, Name: "y"}}, []vm.Event{{Kind: 7, Bytes: []byte("x")}}, 1},
		{[]vm.Event{{Kind: 7}}, []vm.Event{{Kind: 8}}, 0},
		{[]vm.Event{{}}, []vm.Event{s}, 0},
		{[]vm.Event{{Kind: vm.Out, Bytes: []byte("a")}}, []vm.Event{{Kind: vm.Out, Bytes: []byte("A")}}, 0},
		{[]vm.Event{{Kind: vm.Out, Bytes: []byte("a")}}, []vm.Event{{Kind: vm.Out, Bytes: []byte("ab")}}, 0},
	} {
		prefixed(t, x.a, x.b, x.want)
	}
}

// prefixed: both calls, both ways round.
func prefixed(t *testing.T, a, b []vm.Event, want int) {
	t.Helper()
	if got := Common(a, b); got != want {
		t.Errorf("P25.2: Common(%v, %v) = %d, want %d", a, b, got, want)
	}
	if got := Common(b, a); got != want {
		t.Errorf("P25.2: Common(%v, %v) = %d, want %d", b, a, got, want)
	}
	if got := Prefix(a, b); got != (want == len(a)) {
		t.Errorf("P25.2: Prefix(%v, %v) = %t", a, b, got)
	}
	if got := Prefix(b, a); got != (want == len(b)) {
		t.Errorf("P25.2: Prefix(%v, %v) = %t", b, a, got)
	}
}

// Lists with one event changed at each place, of other lengths, with what isn't shown.
func TestPrefixByChance(t *testing.T) {
	r := rand.New(rand.NewSource(3))
	for range 2000 {
		a := someEvents(r)
		b := slices.Clone(a)
		for i := range b {
			switch b[i].Kind {
			case vm.Out:
				b[i].Name = string(someBytes(r))
			case vm.Fault:
				b[i].Bytes = someBytes(r)
			default:
				b[i].Name, b[i].Bytes = string(someBytes(r)), someBytes(r)
			}
		}
		prefixed(t, a, b, len(a))
		for i := range a {
			prefixed(t, a, b[:i], i)
			c := slices.Clone(b)
			c[i] = someEvent(r)
			if r.Intn(4) == 0 {
				c[i].Kind = r.Intn(9) - 2
			}
			want := len(a)
			if !same(a[i], c[i]) {
				want = i
			}
			prefixed(t, a, c, want)
			prefixed(t, a, append(c, someEvent(r)), want)
		}
	}
}

func TestShownDigestByHand(t *testing.T) {
	for _, x := range []struct {
		list []vm.Event
		want string
	}{
		{nil, ""},
		{[]vm.Event{{Kind: vm.Saved, Bytes: []byte("x")}, {Kind: vm.Fault, Name: "f", Bytes: []byte("y")}, {Kind: 9, Bytes: []byte("z")}}, ""},
		{[]vm.Event{{Kind: vm.Out, Bytes: []byte("a")}, {Kind: vm.Fault, Name: "f"}, {Kind: vm.Out}, {Kind: vm.Out, Bytes: []byte("\n\xff"), Name: "n"}}, "a\n\xff"},
	} {
		if got := Shown(x.list...); string(got) != x.want {
			t.Errorf("P25.3: Shown(%v) = %q, want %q", x.list, got, x.want)
		}
	}
	for _, x := range []struct {
		list []vm.Event
		want uint32
	}{{nil, 0}, {[]vm.Event{{Kind: vm.Saved}}, crc32.ChecksumIEEE([]byte("saved\n"))}, {[]vm.Event{{}}, crc32.ChecksumIEEE([]byte("?\n"))}} {
		if got := Digest(x.list...); got != x.want {
			t.Errorf("P25.3: Digest(%v) = %08x, want %08x", x.list, got, x.want)
		}
	}
	if Digest() != 0 || Digest(vm.Event{Kind: vm.Out, Name: "x"}) != Digest(vm.Event{Kind: vm.Out}) {
		t.Errorf("P25.3: Digest tells what isn't shown")
	}
}

func TestShownDigestByChance(t *testing.T) {
	r := rand.New(rand.NewSource(4))
	for range 3000 {
		list := someEvents(r)
		var all []byte
		for _, x := range list {
			if x.Kind == vm.Out {
				all = append(all, x.Bytes...)
			}
		}
		if got := Shown(list...); !bytes.Equal(got, all) {
			t.Fatalf("P25.3: Shown(%v) = %q, want %q", list, got, all)
		}
		if got := Digest(list...); got != crc32.ChecksumIEEE([]byte(wanted(list...))) {
			t.Fatalf("P25.3: Digest(%v) = %08x", list, got)
		}
	}
}

// What is handed in stays as it is, its spare room, too; answers share nothing.
func TestMemory(t *testing.T) {
	room := []byte("abcdef")
	list := make([]vm.Event, 2, 5)
	list[0] = vm.Event{Kind: vm.Out, Bytes: room[:2]}
	list[1] = vm.Event{Kind: vm.Out, Bytes: room[2:4:6]}
	whole := list[:5]
	shown := Shown(list...)
	Text(list...)
	Digest(list...)
	Prefix(list, whole)
	Common(list, whole)
	if string(room) != "abcdef" || whole[2].Kind != 0 || whole[3].Kind != 0 || whole[4].Kind != 0 {
		t.Errorf("rule 5: what is handed in is changed: %q, %v", room, whole)
	}
	shown[0], shown[3] = 'x', 'y'
	if string(room) != "abcdef" {
		t.Errorf("rule 5: Shown answers what it was handed: %q", room)
	}
	one := Shown(list[0])
	one = append(one, "zz"...)
	one[0] = 'x'
	if string(room) != "abcdef" {
		t.Errorf("rule 5: Shown answers what it was handed: %q", room)
	}
	back, _, _ := Parse("out \"abc\"\nout \"def\"\nout \"\"\n")
	for i := range back {
		back[i].Bytes = append(back[i].Bytes, "zzzzzzzzzzz"...)
	}
	if string(back[0].Bytes) != "abczzzzzzzzzzz" || string(back[1].Bytes) != "defzzzzzzzzzzz" || string(back[2].Bytes) != "zzzzzzzzzzz" {
		t.Errorf("rule 5: events share their bytes: %v", back)
	}
}
