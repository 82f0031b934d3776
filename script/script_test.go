package script

import (
	"fmt"
	"math"
	"math/rand"
	"slices"
	"strings"
	"testing"

	"foundling/api"
	"foundling/vm"
)

func TestParseByHand(t *testing.T) {
	for _, x := range []struct {
		s    string
		want string // of the commands
		at   int
		e    api.Errno
	}{
		{"", "", 0, api.OK},
		{"\n", "", 0, api.OK},
		{"   \n\n #\n# cells 5\n  # x", "", 0, api.OK},
		{"cells 5000 # few\nticks 3 9\nrun 100", "1:5000 3:[3 9] 5:100", 0, api.OK},
		{"cells 5000 # few\nticks 3 9\nrun 100\n", "1:5000 3:[3 9] 5:100", 0, api.OK},
		{"cells 0", "1:0", 0, api.OK},
		{"  run   16777216  ", "5:16777216", 0, api.OK},
		{"reload 9000\nimage\nspoil 7 255\nspoil 16777216 0\nspoil 0 9", "6:9000 7 8:7=255 8:16777216=0 8:0=9", 0, api.OK},
		{"input", "2:", 0, api.OK},
		{"input 07", "2:07", 0, api.OK},
		{"input 00ff 0a a0 1234ef", "2:00ff0aa01234ef", 0, api.OK},
		{" input  00  ", "2:00", 0, api.OK},
		{"ticks", "3:[]", 0, api.OK},
		{"collects", "4:[]", 0, api.OK},
		{"ticks 9 3 3 0 16777216", "3:[9 3 3 0 16777216]", 0, api.OK},
		{"collects   1  2 #3", "4:[1 2]", 0, api.OK},
		{"cells 50#00", "1:50", 0, api.OK},
		{"image#", "7", 0, api.OK},
		{"ticks#1", "3:[]", 0, api.OK},
		{"input 07#0", "2:07", 0, api.OK},
		{"run 5#\xff\x00\t\n#\nrun 6", "5:5 5:6", 0, api.OK},

		{"cells", "", 0, api.ErrForm},
		{"cells 1 2", "", 0, api.ErrForm},
		{"cells # 5", "", 0, api.ErrForm},
		{"cel#ls 5", "", 0, api.ErrForm},
		{"cells5", "", 0, api.ErrForm},
		{"cells\t5", "", 0, api.ErrForm},
		{"cells 5\r\n", "", 0, api.ErrForm},
		{"cells 5\x00", "", 0, api.ErrForm},
		{"cells five", "", 0, api.ErrForm},
		{"cells -5", "", 0, api.ErrForm},
		{"cells +5", "", 0, api.ErrForm},
		{"cells -0", "", 0, api.ErrForm},
		{"cells 05", "", 0, api.ErrForm},
		{"cells 00", "", 0, api.ErrForm},
		{"cells 5.0", "", 0, api.ErrForm},
		{"cells 5,", "", 0, api.ErrForm},
		{"cells 1_000", "", 0, api.ErrForm},
		{"cells 0x10", "", 0, api.ErrForm},
		{"cells 1e3", "", 0, api.ErrForm},
		{"cells \u0665", "", 0, api.ErrForm},
		{"Cells 5", "", 0, api.ErrForm},
		{"cell 5", "", 0, api.ErrForm},
		{"5", "", 0, api.ErrForm},
		{"5 cells", "", 0, api.ErrForm},
		{"cells 5 run 5", "", 0, api.ErrForm},
		{"run", "", 0, api.ErrForm},
		{"run 1 2", "", 0, api.ErrForm},
		{"reload", "", 0, api.ErrForm},
		{"reload 1 2", "", 0, api.ErrForm},
		{"image 0", "", 0, api.ErrForm},
		{"spoil", "", 0, api.ErrForm},
		{"spoil 1", "", 0, api.ErrForm},
		{"spoil 1 2 3", "", 0, api.ErrForm},
		{"input 0", "", 0, api.ErrForm},
		{"input 000", "", 0, api.ErrForm},
		{"input 0 0", "", 0, api.ErrForm},
		{"input 00 0", "", 0, api.ErrForm},
		{"input 0A", "", 0, api.ErrForm},
		{"input A0", "", 0, api.ErrForm},
		{"input 0g", "", 0, api.ErrForm},
		{"input 0x", "", 0, api.ErrForm},
		{"input \xc3\xa4", "", 0, api.ErrForm},
		{"ticks x", "", 0, api.ErrForm},
		{"ticks 1 x", "", 0, api.ErrForm},
		{"ticks 1,2", "", 0, api.ErrForm},
		{"collects 1 -1", "", 0, api.ErrForm},
		{"\tcells 5", "", 0, api.ErrForm},
		{"\t", "", 0, api.ErrForm},
		{"\r\n", "", 0, api.ErrForm},
		{"\n \nrun 1\n\nfoo\n", "", 4, api.ErrForm},
		{"run 1\nrun\nrunn\n", "", 1, api.ErrForm},

		{"cells 16777217", "", 0, api.ErrOver},
		{"run 99999999", "", 0, api.ErrOver},
		{"reload 4611686018427387903", "", 0, api.ErrOver},
		{"reload 4611686018427387904", "", 0, api.ErrOver},
		{"run 18446744073709551616", "", 0, api.ErrOver},
		{"run 18446744073709551617", "", 0, api.ErrOver},
		{"run 1" + strings.Repeat("0", 1000), "", 0, api.ErrOver},
		{"ticks 1 2 16777217 4", "", 0, api.ErrOver},
		{"collects 16777217", "", 0, api.ErrOver},
		{"spoil 0 256", "", 0, api.ErrOver},
		{"spoil 0 16777216", "", 0, api.ErrOver},
		{"spoil 16777217 0", "", 0, api.ErrOver},
		{"run 1\n\nspoil 1 999", "", 2, api.ErrOver},

		{"cells 99999999 5", "", 0, api.ErrForm},
		{"image 99999999", "", 0, api.ErrForm},
		{"cells 099999999", "", 0, api.ErrForm},
		{"cells -99999999999999999999", "", 0, api.ErrForm},
		{"ticks 99999999 x", "", 0, api.ErrForm},
		{"ticks x 99999999", "", 0, api.ErrForm},
		{"spoil 256 x", "", 0, api.ErrForm},
		{"spoil 99999999 05", "", 0, api.ErrForm},
		{"spoil 99999999", "", 0, api.ErrForm},
		{"spoil x 999", "", 0, api.ErrForm},
		{"runs 99999999", "", 0, api.ErrForm},
		{"run 99999999\nfoo", "", 0, api.ErrOver},
		{"foo\nrun 99999999", "", 0, api.ErrForm},
	} {
		list, at, e := Parse(x.s)
		if said(list) != x.want || at != x.at || e != x.e {
			t.Errorf("P26.1: Parse(%.80q) = %s, %d, %d; want %s, %d, %d", x.s, said(list), at, e, x.want, x.at, x.e)
		}
	}
}

// said: commands as a text, in another way.
func said(list []Cmd) string {
	var words []string
	for _, c := range list {
		w := fmt.Sprint(c.Kind)
		switch c.Kind {
		case Cells, Run, Reload:
			w += fmt.Sprintf(":%d", c.N)
			c.N = 0
		case Input:
			w += fmt.Sprintf(":%x", c.Bytes)
			c.Bytes = nil
		case Ticks, Collects:
			w += fmt.Sprintf(":%v", c.List)
			c.List = nil
		case Spoil:
			w += fmt.Sprintf(":%d=%d", c.At, c.N)
			c.At, c.N = 0, 0
		}
		if !same(c, Cmd{Kind: c.Kind}) {
			w += " with something else"
		}
		words = append(words, w)
	}
	return strings.Join(words, " ")
}

func TestKinds(t *testing.T) {
	if got := []int{Cells, Input, Ticks, Collects, Run, Reload, Image, Spoil}; !slices.Equal(got, []int{1, 2, 3, 4, 5, 6, 7, 8}) {
		t.Errorf("P26.1: the kinds are %v", got)
	}
}

// check: Parse, against the plain model; what it takes is written, and read back as the same.
func check(t *testing.T, s string) bool {
	t.Helper()
	list, at, e := Parse(s)
	want, wantAt, wantE := parsed(s)
	if !allSame(list, want) || at != wantAt || e != wantE || e != api.OK && list != nil {
		t.Errorf("P26.1: Parse(%.80q) = %s, %d, %d; want %s, %d, %d", s, said(list), at, e, said(want), wantAt, wantE)
	}
	if e != api.OK {
		return false
	}
	text, e := Text(list...)
	back, at, e2 := Parse(text)
	if e != api.OK || e2 != api.OK || at != 0 || !allSame(back, list) {
		t.Errorf("P26.2: %.80q is written as %.80q (%d), which is read as %s (%d, %d)", s, text, e, said(back), at, e2)
	}
	return true
}

// Each word that begins a line, with each other line's words behind it, of which there are none, one, two, and three.
func TestEachCommand(t *testing.T) {
	words := []string{"0", "7", "00", "07", "ff", "FF", "0a", "10", "255", "256", "16777216", "16777217", "-1", "+1", "x", "#", "#1", "1#", "image", "\t", "1234567", "99999999999999999999", "099999999999999999999"}
	for _, name := range []string{"cells", "input", "ticks", "collects", "run", "reload", "image", "spoil", "", "cell", "Run", "images", "#", "#run", "ru#n", "run#"} {
		for _, begin := range []string{"", " ", "   ", "\n", "run 1\n \n"} {
			check(t, begin+name)
			check(t, begin+name+"\n")
			check(t, begin+name+"  ")
		}
		for _, a := range words {
			check(t, name+" "+a)
			check(t, name+a)
			for _, b := range words {
				check(t, name+" "+a+" "+b+"\nimage")
				check(t, "  "+name+"  "+a+"   "+b+"  \n")
				for _, c := range words {
					check(t, name+" "+a+" "+b+" "+c)
				}
			}
		}
	}
}

// Texts with one byte put in, taken out, changed, and cut at each place.
func TestSpoiltTexts(t *testing.T) {
	const bytes = "\n #0159afgF-+\t\r\x00\xff"
	for _, s := range []string{
		"cells 5000 # few\nticks 3 9\nrun 100", "input 07 ff0a\ncollects\nimage\n", "reload 16777216\nspoil 16777216 255\n", "ticks 10 20\n\n  spoil 0 0 #\n",
	} {
		if !check(t, s) {
			t.Errorf("P26.1: %q isn't taken", s)
		}
		for i := range len(s) + 1 {
			check(t, s[:i])
			check(t, s[i:])
			for c := range len(bytes) {
				check(t, s[:i]+bytes[c:c+1]+s[i:])
				if i < len(s) {
					check(t, s[:i]+bytes[c:c+1]+s[i+1:])
				}
			}
			if i < len(s) {
				check(t, s[:i]+s[i+1:])
			}
		}
	}
}

// Commands by chance, written loosely.
func TestLooseTexts(t *testing.T) {
	r := rand.New(rand.NewSource(1))
	for range 5000 {
		list := someCmds(r)
		s := loose(r, list)
		if got, at, e := Parse(s); e != api.OK || at != 0 || !allSame(got, list) {
			t.Fatalf("P26.1: Parse(%q) = %s, %d, %d; want %s", s, said(got), at, e, said(list))
		}
		check(t, s)
		b := []byte(s)
		for range r.Intn(3) {
			if len(b) > 0 {
				b[r.Intn(len(b))] = "\n #09ax-"[r.Intn(8)]
			}
		}
		check(t, string(b))
	}
}

// Any bytes: told at once, and none of them panics.
func TestAnyBytes(t *testing.T) {
	r := rand.New(rand.NewSource(2))
	words := []string{"cells", "input", "ticks", "collects", "run", "reload", "image", "spoil", " ", " ", " ", "\n", "\n", "0", "5", "07", "16777216", "99999999", "#", "-", "x", "\xff"}
	taken := 0
	for range 30000 {
		s := ""
		for range r.Intn(8) {
			s += words[r.Intn(len(words))]
		}
		if check(t, s) {
			taken++
		}
		b := make([]byte, r.Intn(20))
		r.Read(b)
		check(t, string(b))
	}
	if taken < 2000 {
		t.Errorf("the test tries too little: %d", taken)
	}
}

// Texts of as many bytes as there may be, and one more.
func TestSizeOfText(t *testing.T) {
	for _, line := range []string{"# a remark\n", "image\n", "\n", "run 1\n", "bad\n", "ticks 99999999\n"} {
		for _, size := range []int{api.MaxSource - 1, api.MaxSource, api.MaxSource + 1, 2 * api.MaxSource} {
			lines := (size - 100) / len(line)
			s := strings.Repeat(line, lines) + strings.Repeat(" ", size-lines*len(line))
			list, at, e := Parse(s)
			want, wantAt, wantE := parsed(s)
			if !allSame(list, want) || at != wantAt || e != wantE || (e == api.ErrSize) != (size > api.MaxSource) {
				t.Errorf("P26.1: %d bytes of %q: %d commands, %d, %d", size, line, len(list), at, e)
			}
		}
	}
	most := "input " + strings.Repeat("0f", (api.MaxSource-6)/2)
	list, _, e := Parse(most)
	if e != api.OK || len(list[0].Bytes) != (api.MaxSource-6)/2 {
		t.Fatalf("P26.1: an input of %d bytes: %d", (api.MaxSource-6)/2, e)
	}
	// With its end it is one byte too long.
	if s, e := Text(list...); s != "" || e != api.ErrSize {
		t.Errorf("P26.2: a text of MaxSource and 1: %d bytes, %d", len(s), e)
	}
}

func TestTextByHand(t *testing.T) {
	for _, x := range []struct {
		list []Cmd
		want string
		e    api.Errno
	}{
		{nil, "", api.OK},
		{[]Cmd{{Kind: Cells, N: 5000}, {Kind: Ticks, List: []int{3, 9}}, {Kind: Run, N: 100}}, "cells 5000\nticks 3 9\nrun 100\n", api.OK},
		{[]Cmd{{Kind: Input, Bytes: []byte{0, 7, 255, 0xa0}}, {Kind: Input}, {Kind: Input, Bytes: []byte{}}}, "input 0007ffa0\ninput\ninput\n", api.OK},
		{[]Cmd{{Kind: Ticks}, {Kind: Collects, List: []int{}}, {Kind: Collects, List: []int{9, 0, 1 << 24}}}, "ticks\ncollects\ncollects 9 0 16777216\n", api.OK},
		{[]Cmd{{Kind: Cells}, {Kind: Run}, {Kind: Reload}, {Kind: Image}, {Kind: Spoil}}, "cells 0\nrun 0\nreload 0\nimage\nspoil 0 0\n", api.OK},
		{[]Cmd{{Kind: Reload, N: 1 << 24}, {Kind: Spoil, At: 1 << 24, N: 255}}, "reload 16777216\nspoil 16777216 255\n", api.OK},
		{[]Cmd{{Kind: Run, List: []int{}, Bytes: []byte{}}}, "run 0\n", api.OK},
		{[]Cmd{{Kind: Image}, {}}, "", api.ErrArg},
		{[]Cmd{{Kind: 9}}, "", api.ErrArg},
		{[]Cmd{{Kind: -1}}, "", api.ErrArg},
		{[]Cmd{{Kind: math.MaxInt}}, "", api.ErrArg},
		{[]Cmd{{Kind: math.MinInt}}, "", api.ErrArg},
		{[]Cmd{{Kind: Spoil, N: 256}}, "", api.ErrArg},
		{[]Cmd{{Kind: Spoil, At: 1<<24 + 1}}, "", api.ErrArg},
		{[]Cmd{{Kind: Image}, {Kind: Collects, List: []int{1, -1}}}, "", api.ErrArg},
	} {
		got, e := Text(x.list...)
		if got != x.want || e != x.e {
			t.Errorf("P26.2: Text(%s) = %q, %d; want %q, %d", said(x.list), got, e, x.want, x.e)
		}
		if w, we := wanted(x.list...); w != x.want || we != x.e {
			t.Errorf("the model: %s: %q, %d; want %q, %d", said(x.list), w, we, x.want, x.e)
		}
	}
}

// Each kind with each part being another one.
func TestTextOfEachPart(t *testing.T) {
	numbers := []int{0, 1, -1, 255, 256, 1 << 24, 1<<24 + 1, math.MaxInt, math.MinInt}
	lists := [][]int{nil, {}, {0}, {1 << 24, 5}, {1<<24 + 1}, {1, -1}, {math.MinInt}}
	texts := [][]byte{nil, {}, {0}, {255, 16, 1}}
	taken := 0
	for kind := -1; kind < 11; kind++ {
		for _, n := range numbers {
			for _, at := range numbers {
				for _, list := range lists {
					for _, b := range texts {
						c := Cmd{kind, n, at, list, b}
						got, e := Text(c)
						want, wantE := wanted(c)
						if got != want || e != wantE {
							t.Fatalf("P26.2: Text(%+v) = %q, %d; want %q, %d", c, got, e, want, wantE)
						}
						if e != api.OK {
							continue
						}
						taken++
						if back, at, e := Parse(got); e != api.OK || at != 0 || len(back) != 1 || !same(back[0], c) {
							t.Fatalf("P26.2: %q is read as %s (%d), and was %+v", got, said(back), e, c)
						}
					}
				}
			}
		}
	}
	if taken < 100 {
		t.Errorf("the test tries too little: %d", taken)
	}
}

func TestTextByChance(t *testing.T) {
	r := rand.New(rand.NewSource(3))
	for range 5000 {
		list := someCmds(r)
		if len(list) > 0 && r.Intn(3) == 0 {
			c := &list[r.Intn(len(list))]
			switch r.Intn(5) {
			case 0:
				c.Kind = r.Intn(12) - 1
			case 1:
				c.N = r.Intn(1<<25) - 10
			case 2:
				c.At = r.Intn(1<<25) - 10
			case 3:
				c.List = append(c.List, r.Intn(1<<25)-10)
			case 4:
				c.Bytes = append(c.Bytes, 7)
			}
		}
		got, e := Text(list...)
		want, wantE := wanted(list...)
		if got != want || e != wantE {
			t.Fatalf("P26.2: Text(%s) = %q, %d; want %q, %d", said(list), got, e, want, wantE)
		}
		if e != api.OK {
			continue
		}
		if back, at, e := Parse(got); e != api.OK || at != 0 || !allSame(back, list) {
			t.Fatalf("P26.2: %q is read as %s (%d), and was %s", got, said(back), e, said(list))
		}
	}
}

// As many bytes as there may be, and one more; a wrong one behind them.
func TestTextTooLong(t *testing.T) {
	image := Cmd{Kind: Image}                                 // 6 bytes
	list := slices.Repeat([]Cmd{image}, (api.MaxSource-16)/6) // 65520 bytes
	for _, x := range []struct {
		add []Cmd
		e   api.Errno
	}{
		{[]Cmd{image, {Kind: Run, N: 12345}}, api.OK},       // 16
		{[]Cmd{image, {Kind: Run, N: 123456}}, api.ErrSize}, // 17
		{[]Cmd{image, {Kind: Input, Bytes: []byte{1}}}, api.OK},
		{[]Cmd{{Kind: Input, Bytes: []byte{1, 2, 3, 4}}, {}}, api.ErrArg},
		{[]Cmd{image, {Kind: Run, N: 123456}, {}}, api.ErrArg},
		{[]Cmd{image, image, image, image, image, {Kind: Run, N: -1}}, api.ErrArg},
		{[]Cmd{{Kind: Collects, List: make([]int, 3)}, {Kind: Image}}, api.ErrSize},
	} {
		all := slices.Concat(list, x.add)
		s, e := Text(all...)
		want, wantE := wanted(all...)
		if s != want || e != x.e || wantE != x.e {
			t.Errorf("P26.2: %d bytes and %s: %d bytes, %d; want %d bytes, %d (%d)", 6*len(list), said(x.add), len(s), e, len(want), wantE, x.e)
		}
		if e == api.OK {
			check(t, s)
		}
	}
	for n := api.MaxSource/2 - 5; n < api.MaxSource/2+2; n++ {
		c := Cmd{Kind: Input, Bytes: make([]byte, n)}
		isShort := 6+2*n+1 <= api.MaxSource
		if s, e := Text(c); (e == api.OK) != isShort || e != api.OK && (e != api.ErrSize || s != "") {
			t.Errorf("P26.2: an Input of %d bytes: %d bytes, %d", n, len(s), e)
		}
		if s, e := Text(c, Cmd{Kind: Input, Bytes: make([]byte, n), N: 1}); s != "" || e != api.ErrArg {
			t.Errorf("P26.2: two Inputs of %d bytes: %d bytes, %d", n, len(s), e)
		}
	}
	if s, e := Text(Cmd{Kind: Input, Bytes: make([]byte, 1<<22)}, Cmd{Kind: Ticks, List: make([]int, 1<<20)}); s != "" || e != api.ErrSize {
		t.Errorf("P26.2: much: %d bytes, %d", len(s), e)
	}
}

func TestOptionsByHand(t *testing.T) {
	for _, x := range []struct {
		list  []Cmd
		cells int
		want  string
	}{
		{nil, 60000, "[] [] []"},
		{[]Cmd{{Kind: Run, N: 7, Bytes: []byte{1}, List: []int{2}}, {Kind: Reload, N: 8, Bytes: []byte{1}, List: []int{2}}, {Kind: Image, N: 9, Bytes: []byte{1}}, {Kind: Spoil, At: 1, N: 2, List: []int{2}}}, 60000, "[] [] []"},
		{[]Cmd{{N: 5, Bytes: []byte{1}, List: []int{2}}, {Kind: 9, N: 5, Bytes: []byte{1}, List: []int{2}}, {Kind: -1, N: 5}}, 60000, "[] [] []"},
		{[]Cmd{{Kind: Cells}}, 0, "[] [] []"},
		{[]Cmd{{Kind: Cells, N: 5}, {Kind: Run}, {Kind: Cells, N: 7, List: []int{1}, Bytes: []byte{1}}, {Kind: Run, N: 3}}, 7, "[] [] []"},
		{[]Cmd{{Kind: Cells, N: 7}, {Kind: Cells, N: -5}}, -5, "[] [] []"},
		{[]Cmd{{Kind: Cells, N: 60001}, {Kind: Cells, N: 60000}}, 60000, "[] [] []"},
		{[]Cmd{{Kind: Input, Bytes: []byte{3, 1}, N: 4, List: []int{9}}, {Kind: Input}, {Kind: Run, N: 1}, {Kind: Input, Bytes: []byte{2, 0}}}, 60000, "[3 1 2 0] [] []"},
		{[]Cmd{{Kind: Ticks, List: []int{9, 3}, N: 4, Bytes: []byte{9}}, {Kind: Collects, List: []int{5, 5}}, {Kind: Ticks}, {Kind: Ticks, List: []int{3}}, {Kind: Collects, List: []int{-1, 0}}}, 60000, "[] [9 3 3] [5 5 -1 0]"},
	} {
		cells, o := Options(x.list...)
		if got := shown(o); cells != x.cells || got != x.want || o.Count != 0 {
			t.Errorf("P26.3: Options(%s) = %d, %s; want %d, %s", said(x.list), cells, got, x.cells, x.want)
		}
	}
}

func shown(o vm.Options) string { return fmt.Sprint(o.Input, o.Ticks, o.Collects) }

func TestOptionsByChance(t *testing.T) {
	r := rand.New(rand.NewSource(4))
	for range 3000 {
		list := someCmds(r)
		cells := 60000
		var input []byte
		var ticks, collects []int
		for i := range list {
			c := &list[i]
			if r.Intn(4) == 0 {
				c.Kind = r.Intn(11) - 1
			}
			switch c.Kind {
			case 1:
				cells = c.N
			case 2:
				input = append(input, c.Bytes...)
			case 3:
				ticks = append(ticks, c.List...)
			case 4:
				collects = append(collects, c.List...)
			}
		}
		got, o := Options(list...)
		if got != cells || shown(o) != fmt.Sprint(input, ticks, collects) || o.Count != 0 {
			t.Fatalf("P26.3: Options(%s) = %d, %s; want %d", said(list), got, shown(o), cells)
		}
	}
}

// What is handed in stays as it is, its spare room, too; answers share nothing.
func TestMemory(t *testing.T) {
	room, numbers := []byte{1, 2, 3, 4}, []int{1, 2, 3, 4}
	list := []Cmd{
		{Kind: Input, Bytes: room[:1]}, {Kind: Input, Bytes: room[1:2]},
		{Kind: Ticks, List: numbers[:1]}, {Kind: Collects, List: numbers[1:2]}, {Kind: Ticks, List: numbers[2:3]},
	}
	Text(list...)
	_, o := Options(list...)
	_, p := Options(list...)
	for _, q := range []*vm.Options{&o, &p} {
		for i := range q.Input {
			q.Input[i] += 10
		}
		q.Ticks[0], q.Ticks[1], q.Collects[0] = 11, 13, 12
		q.Ticks = append(q.Ticks, 9)
		q.Collects = append(q.Collects, 9)
		q.Input = append(q.Input, 9)
	}
	if shown(o) != "[11 12 9] [11 13 9] [12 9]" || shown(p) != shown(o) {
		t.Errorf("rule 5: answers share: %s, %s", shown(o), shown(p))
	}
	if !slices.Equal(room, []byte{1, 2, 3, 4}) || !slices.Equal(numbers, []int{1, 2, 3, 4}) {
		t.Errorf("rule 5: what is handed in is changed: %v, %v", room, numbers)
	}
	// One list alone, which could be handed on as it is.
	_, one := Options(Cmd{Kind: Input, Bytes: room}, Cmd{Kind: Ticks, List: numbers}, Cmd{Kind: Collects, List: numbers})
	one.Input[0], one.Ticks[0], one.Collects[1] = 9, 9, 9
	if room[0] != 1 || numbers[0] != 1 || numbers[1] != 2 || one.Ticks[1] != 2 {
		t.Errorf("rule 5: Options answers what it was handed")
	}
	back, _, _ := Parse("input 0102\ninput 0304\nticks 1 2\ncollects 3 4\nticks\n")
	for i := range back {
		back[i].Bytes = append(back[i].Bytes, 9, 9, 9)
		back[i].List = append(back[i].List, 9, 9, 9)
	}
	if fmt.Sprint(back) != "[{2 0 0 [9 9 9] [1 2 9 9 9]} {2 0 0 [9 9 9] [3 4 9 9 9]} {3 0 0 [1 2 9 9 9] [9 9 9]} {4 0 0 [3 4 9 9 9] [9 9 9]} {3 0 0 [9 9 9] [9 9 9]}]" {
		t.Errorf("rule 5: commands share: %v", back)
	}
}
