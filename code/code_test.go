package code

import (
	"bytes"
	"math"
	"math/rand"
	"slices"
	"strconv"
	"strings"
	"testing"
	"unsafe"

	"foundling/api"
)

// like: what the chapter's table says of an Op: the bounds of A and B and their bytes (0: it has none), what it takes and puts.
type like struct {
	op             int
	name           string
	lowA, highA    int
	sizeA          int
	lowB, highB    int
	sizeB          int
	takes, puts    int
	jumps, stops   bool
	takesArguments bool
}

func likes() []like {
	table := []like{
		{op: PushSelf, name: "PushSelf", puts: 1}, {op: PushNil, name: "PushNil", puts: 1}, {op: PushTrue, name: "PushTrue", puts: 1}, {op: PushFalse, name: "PushFalse", puts: 1},
		{op: PushSmall, name: "PushSmall", lowA: -128, highA: 127, sizeA: 1, puts: 1},
		{op: PushTemp, name: "PushTemp", highA: 255, sizeA: 1, puts: 1}, {op: PushField, name: "PushField", highA: 255, sizeA: 1, puts: 1}, {op: PushLit, name: "PushLit", highA: 255, sizeA: 1, puts: 1},
		{op: StoreTemp, name: "StoreTemp", highA: 255, sizeA: 1, takes: 1, puts: 1}, {op: StoreField, name: "StoreField", highA: 255, sizeA: 1, takes: 1, puts: 1},
		{op: Pop, name: "Pop", takes: 1}, {op: Dup, name: "Dup", takes: 1, puts: 2},
		{op: Send, name: "Send", highA: 255, sizeA: 1, highB: 255, sizeB: 1, takes: 1, puts: 1, takesArguments: true}, {op: SuperSend, name: "SuperSend", highA: 255, sizeA: 1, highB: 255, sizeB: 1, takes: 1, puts: 1, takesArguments: true},
		{op: Jump, name: "Jump", lowA: -32768, highA: 32767, sizeA: 2, jumps: true, stops: true}, {op: JumpTrue, name: "JumpTrue", lowA: -32768, highA: 32767, sizeA: 2, takes: 1, jumps: true}, {op: JumpFalse, name: "JumpFalse", lowA: -32768, highA: 32767, sizeA: 2, takes: 1, jumps: true},
		{op: Block, name: "Block", highA: 255, sizeA: 1, highB: 65535, sizeB: 2, puts: 1},
		{op: Return, name: "Return", takes: 1, stops: true}, {op: End, name: "End", takes: 1, stops: true},
	}
	return table
}

// bytesOf: an instruction as the table says.
func (l like) bytesOf(a, b int) []byte {
	out := []byte{byte(l.op)}
	switch l.sizeA {
	case 1:
		out = append(out, byte((a+256)%256))
	case 2:
		n := (a + 65536) % 65536
		out = append(out, byte(n%256), byte(n/256))
	}
	switch l.sizeB {
	case 1:
		out = append(out, byte(b))
	case 2:
		out = append(out, byte(b%256), byte(b/256))
	}
	return out
}

// numbers: all that may be of so many, the edges of them and what is beyond.
func numbers(low, high int) []int {
	out := []int{low - 1, low, high, high + 1, math.MinInt, math.MaxInt, -1, 0, 1, 255, 256, 65535, 65536, -256, -65536, 1 << 32, low + 65536, high - 65536, low + 256, high - 256}
	for n := low; n < high; n += 1 + (high-low)/400 {
		out = append(out, n)
	}
	return out
}

// P14.1

func TestOps(t *testing.T) {
	for i, l := range likes() {
		if l.op != i {
			t.Errorf("P14.1: %s is %d", l.name, l.op)
		}
	}
	if len(likes()) != 20 {
		t.Errorf("P14.1: %d Ops", len(likes()))
	}
}

func checkEncode(t *testing.T, want []byte, list ...Instr) {
	t.Helper()
	if got, e := Encode(list...); e != api.OK || !bytes.Equal(got, want) {
		t.Errorf("P14.1: Encode(%v) = %x, %d, want %x", list, got, e, want)
	}
}

func checkNoInstr(t *testing.T, list ...Instr) {
	t.Helper()
	if got, e := Encode(list...); e != api.ErrArg || got != nil {
		t.Errorf("P14.1: Encode(%v) = %x, %d", list, got, e)
	}
}

func checkDecode(t *testing.T, b []byte, at int, want Instr, wantBehind int, wantE api.Errno) {
	t.Helper()
	if got, behind, e := Decode(b, at); got != want || behind != wantBehind || e != wantE {
		t.Errorf("P14.1: Decode(%.60x, %d) = %v, %d, %d, want %v, %d, %d", b, at, got, behind, e, want, wantBehind, wantE)
	}
}

// Each Op with every A and B there may be, and what there may not be.
func TestOperands(t *testing.T) {
	for _, l := range likes() {
		for _, a := range numbers(l.lowA, l.highA) {
			for _, b := range numbers(l.lowB, l.highB) {
				i := Instr{l.op, a, b}
				if a < l.lowA || a > l.highA || b < l.lowB || b > l.highB {
					checkNoInstr(t, i)
					checkNoInstr(t, Instr{Op: Pop}, i)
					checkNoInstr(t, i, Instr{Op: Pop})
					continue
				}
				want := l.bytesOf(a, b)
				checkEncode(t, want, i)
				checkDecode(t, want, 0, i, len(want), api.OK)
				checkDecode(t, append([]byte{99, 4}, append(want, 14)...), 2, i, 2+len(want), api.OK)
			}
		}
	}
}

func TestEncode(t *testing.T) {
	checkEncode(t, nil)
	checkEncode(t, []byte{4, 5, 18}, Instr{PushSmall, 5, 0}, Instr{Op: Return})
	checkEncode(t, []byte{4, 0x80, 4, 0x7f, 4, 0xff}, Instr{PushSmall, -128, 0}, Instr{PushSmall, 127, 0}, Instr{PushSmall, -1, 0})
	checkEncode(t, []byte{14, 0xfe, 0xff, 15, 0, 0x80, 16, 0xff, 0x7f}, Instr{Jump, -2, 0}, Instr{JumpTrue, -32768, 0}, Instr{JumpFalse, 32767, 0})
	checkEncode(t, []byte{17, 3, 2, 1, 12, 7, 9, 13, 255, 255}, Instr{Block, 3, 258}, Instr{Send, 7, 9}, Instr{SuperSend, 255, 255})
	for _, op := range []int{-1, 20, 21, 255, 256, 256 + Pop, math.MinInt, math.MaxInt} {
		checkNoInstr(t, Instr{Op: op})
		checkNoInstr(t, Instr{Op: Pop}, Instr{Op: op}, Instr{Op: Pop})
	}
	many := make([]Instr, 100000)
	if got, e := Encode(many...); e != api.OK || !bytes.Equal(got, make([]byte, 100000)) {
		t.Errorf("P14.1: Encode of many: %d bytes, %d", len(got), e)
	}
	many[99999].A = 1
	checkNoInstr(t, many...)
}

// Bytes of every value, cut everywhere.
func TestDecode(t *testing.T) {
	table := likes()
	for op := range 256 {
		b := []byte{byte(op), 0x81, 0xfe, 0xff, 3}
		if op >= len(table) {
			for cut := 1; cut <= len(b); cut++ {
				checkDecode(t, b[:cut], 0, Instr{}, 0, api.ErrForm)
			}
			continue
		}
		size := 1 + table[op].sizeA + table[op].sizeB
		for cut := 1; cut <= len(b); cut++ {
			if cut < size {
				checkDecode(t, b[:cut], 0, Instr{}, 0, api.ErrEnd)
			} else if i, behind, e := Decode(b[:cut], 0); e != api.OK || behind != size || !bytes.Equal(table[op].bytesOf(i.A, i.B), b[:size]) {
				t.Errorf("P14.1: Decode(%x, 0) = %v, %d, %d", b[:cut], i, behind, e)
			}
		}
	}
	checkDecode(t, []byte{4, 5, 18}, 0, Instr{PushSmall, 5, 0}, 2, api.OK)
	checkDecode(t, []byte{4, 5, 18}, 1, Instr{PushTemp, 18, 0}, 3, api.OK)
	checkDecode(t, []byte{4, 5, 18}, 2, Instr{Return, 0, 0}, 3, api.OK)
	checkDecode(t, []byte{17, 1, 9, 0}, 0, Instr{Block, 1, 9}, 4, api.OK)
}

// Places: there is one at the end, but no instruction.
func TestPlaces(t *testing.T) {
	for _, b := range [][]byte{nil, {}, {10}, {10, 10, 10}, {4}, {99}, {4, 5}} {
		for _, at := range []int{-1, -2, math.MinInt, len(b) + 1, len(b) + 2, math.MaxInt} {
			checkDecode(t, b, at, Instr{}, 0, api.ErrArg)
		}
		checkDecode(t, b, len(b), Instr{}, 0, api.ErrEnd)
	}
	// What stands in the spare room isn't of the bytes.
	checkDecode(t, []byte{4, 5}[:1], 0, Instr{}, 0, api.ErrEnd)
	checkDecode(t, []byte{10, 10}[:1], 1, Instr{}, 0, api.ErrEnd)
	checkDecode(t, []byte{10, 10}[:1], 2, Instr{}, 0, api.ErrArg)
}

// someInstr: any that is one.
func someInstr(r *rand.Rand) Instr {
	l := likes()[r.Intn(20)]
	return Instr{l.op, l.lowA + r.Intn(l.highA-l.lowA+1), l.lowB + r.Intn(l.highB-l.lowB+1)}
}

// all: the instructions of bytes, one behind the other.
func all(b []byte) ([]Instr, api.Errno) {
	var out []Instr
	for at := 0; at < len(b); {
		i, behind, e := Decode(b, at)
		if e != api.OK {
			return nil, e
		}
		out, at = append(out, i), behind
	}
	return out, api.OK
}

// Each undoes the other.
func TestBack(t *testing.T) {
	r := rand.New(rand.NewSource(141))
	for range 3000 {
		var list []Instr
		for range r.Intn(20) {
			list = append(list, someInstr(r))
		}
		b, e := Encode(list...)
		back, told := all(b)
		if e != api.OK || told != api.OK || !slices.Equal(back, list) {
			t.Fatalf("P14.1: %v is %x, %d, and back %v, %d", list, b, e, back, told)
		}
	}
	for range 30000 {
		b := make([]byte, r.Intn(12))
		for i := range b {
			b[i] = byte(r.Intn(24))
		}
		list, e := all(b)
		if e != api.OK {
			continue
		}
		if again, told := Encode(list...); told != api.OK || !bytes.Equal(again, b) {
			t.Fatalf("P14.1: %x is %v, and again %x, %d", b, list, again, told)
		}
	}
}

// P14.2

func checkText(t *testing.T, b []byte, want string, wantE api.Errno) {
	t.Helper()
	if got, e := Text(b); got != want || e != wantE {
		t.Errorf("P14.2: Text(%.60x) = %q, %d, want %q, %d", b, got, e, want, wantE)
	}
}

func TestText(t *testing.T) {
	checkText(t, nil, "", api.OK)
	checkText(t, []byte{}, "", api.OK)
	checkText(t, []byte{4, 5, 18}, "0 PushSmall 5\n2 Return\n", api.OK)
	checkText(t, []byte{4, 251, 14, 254, 255, 16, 3, 0}, "0 PushSmall -5\n2 Jump -2\n5 JumpFalse 3\n", api.OK)
	checkText(t, []byte{17, 2, 3, 0, 5, 7, 19, 12, 0, 0, 13, 200, 12, 18}, "0 Block 2 3\n4 PushTemp 7\n6 End\n7 Send 0 0\n10 SuperSend 200 12\n13 Return\n", api.OK)
	checkText(t, []byte{17, 0, 255, 255}, "0 Block 0 65535\n", api.OK)
	// A block's code is no more than bytes here.
	checkText(t, []byte{17, 0, 1, 0, 4, 19}, "0 Block 0 1\n4 PushSmall 19\n", api.OK)
}

// Each Op, at places of every length.
func TestTextOps(t *testing.T) {
	r := rand.New(rand.NewSource(142))
	for range 300 {
		var b []byte
		want := ""
		for range r.Intn(60) {
			i := someInstr(r)
			l := likes()[i.Op]
			want += strconv.Itoa(len(b)) + " " + l.name
			if l.sizeA > 0 {
				want += " " + strconv.Itoa(i.A)
			}
			if l.sizeB > 0 {
				want += " " + strconv.Itoa(i.B)
			}
			want += "\n"
			b = append(b, l.bytesOf(i.A, i.B)...)
		}
		checkText(t, b, want, api.OK)
	}
	long := bytes.Repeat([]byte{10}, 1<<18)
	if s, e := Text(long); e != api.OK || strings.Count(s, "\n") != 1<<18 || !strings.HasSuffix(s, "\n262143 Pop\n") {
		t.Errorf("P14.2: Text of many: %d bytes, %d", len(s), e)
	}
}

// The first one that is none tells.
func TestTextErrors(t *testing.T) {
	for _, c := range []struct {
		b []byte
		e api.Errno
	}{
		{[]byte{20}, api.ErrForm}, {[]byte{255}, api.ErrForm}, {[]byte{10, 20}, api.ErrForm}, {[]byte{4}, api.ErrEnd}, {[]byte{10, 12, 0}, api.ErrEnd}, {[]byte{14, 0}, api.ErrEnd}, {[]byte{17, 0, 0}, api.ErrEnd}, {[]byte{99, 4}, api.ErrForm}, {[]byte{4, 99, 20, 4}, api.ErrForm}, {[]byte{17, 0, 1, 0, 20, 18}, api.ErrForm},
	} {
		checkText(t, c.b, "", c.e)
	}
}

// What is handed in stays as it is, spare room and all, and answers share no memory.
func TestMemory(t *testing.T) {
	list := []Instr{{PushSmall, 5, 0}, {Op: Return}, {Op: Pop}}
	a, _ := Encode(list[:2]...)
	b, _ := Encode(list[:2]...)
	if unsafe.SliceData(a) == unsafe.SliceData(b) {
		t.Errorf("P14.1: two answers share memory")
	}
	a = append(a, 1, 2, 3)
	if !bytes.Equal(b, []byte{4, 5, 18}) || !slices.Equal(list, []Instr{{PushSmall, 5, 0}, {Op: Return}, {Op: Pop}}) {
		t.Errorf("P14.1: %v, %v is changed", list, b)
	}
	room := []byte{4, 5, 17, 0, 2, 0, 1, 19, 10, 18, 77, 78}
	before := slices.Clone(room)
	Text(room[:10])
	Decode(room[:10], 2)
	Check(room[:10], 0, 0, 0)
	if !bytes.Equal(room, before) {
		t.Errorf("P14.3: bytes that were handed in are changed: %v", room)
	}
}
