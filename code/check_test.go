package code

import (
	"bytes"
	"math"
	"math/rand"
	"testing"

	"foundling/api"
)

// Instructions, shortly.
var (
	self  = Instr{Op: PushSelf}
	null  = Instr{Op: PushNil}
	pop   = Instr{Op: Pop}
	dup   = Instr{Op: Dup}
	ret   = Instr{Op: Return}
	end   = Instr{Op: End}
	small = Instr{PushSmall, 1, 0}
)

func jump(n int) Instr         { return Instr{Jump, n, 0} }
func jumpTrue(n int) Instr     { return Instr{JumpTrue, n, 0} }
func jumpFalse(n int) Instr    { return Instr{JumpFalse, n, 0} }
func block(a, b int) Instr     { return Instr{Block, a, b} }
func send(lit, args int) Instr { return Instr{Send, lit, args} }

func coded(list ...Instr) []byte {
	b, e := Encode(list...)
	if e != api.OK {
		panic("no code")
	}
	return b
}

// checkCheck: with 3 literals, 3 slots and 3 fields.
func checkCheck(t *testing.T, b []byte, want int, wantE api.Errno) {
	t.Helper()
	if got, e := Check(b, 3, 3, 3); got != want || e != wantE {
		t.Errorf("P14.3: Check(%.60x) = %d, %d, want %d, %d", b, got, e, want, wantE)
	}
}

// checkRight, checkForm, checkEnd: of instructions.
func checkRight(t *testing.T, want int, list ...Instr) {
	t.Helper()
	checkCheck(t, coded(list...), want, api.OK)
}

func checkForm(t *testing.T, list ...Instr) {
	t.Helper()
	checkCheck(t, coded(list...), 0, api.ErrForm)
}

func checkEnd(t *testing.T, list ...Instr) {
	t.Helper()
	checkCheck(t, coded(list...), 0, api.ErrEnd)
}

// repeat: so many of an instruction, with others behind.
func repeat(i Instr, count int, behind ...Instr) []Instr {
	var out []Instr
	for range count {
		out = append(out, i)
	}
	return append(out, behind...)
}

// P14.3

// What each Op takes and puts, and the greatest depth.
func TestDepths(t *testing.T) {
	checkRight(t, 1, Instr{PushSmall, 5, 0}, ret)
	for _, op := range []int{PushSelf, PushNil, PushTrue, PushFalse, PushSmall, PushTemp, PushField, PushLit} {
		checkRight(t, 1, Instr{Op: op}, ret)
		checkRight(t, 2, Instr{Op: op}, Instr{Op: op}, pop, ret)
		checkForm(t, Instr{Op: op})
	}
	checkRight(t, 1, null, Instr{Op: StoreTemp}, Instr{Op: StoreField}, ret)
	checkForm(t, Instr{Op: StoreTemp}, ret)
	checkForm(t, Instr{Op: StoreField}, ret)
	checkRight(t, 1, null, pop, null, ret)
	checkForm(t, pop, null, ret)
	checkForm(t, null, pop, ret)
	checkRight(t, 2, null, dup, pop, ret)
	checkRight(t, 2, null, dup, ret)
	checkForm(t, dup, ret)
	checkForm(t, ret)
	checkForm(t, end)
	for _, op := range []int{Send, SuperSend} {
		checkRight(t, 1, null, Instr{op, 0, 0}, ret)
		checkRight(t, 3, null, null, null, Instr{op, 0, 2}, ret)
		checkRight(t, 3, null, null, null, Instr{op, 0, 1}, Instr{op, 0, 1}, ret)
		checkForm(t, Instr{op, 0, 0}, ret)
		checkForm(t, null, Instr{op, 0, 1}, ret)
		checkForm(t, null, null, Instr{op, 0, 1}, pop, ret)
		checkCheck(t, coded(repeat(null, 200, Instr{op, 0, 199}, ret)...), 200, api.OK)
		checkForm(t, repeat(null, 200, Instr{op, 0, 200}, ret)...)
		checkForm(t, repeat(null, 200, Instr{op, 0, 255}, ret)...)
	}
	checkRight(t, 1, null, jumpTrue(0), null, ret)
	checkRight(t, 2, null, null, jumpFalse(0), ret)
	checkForm(t, jumpTrue(0), null, ret)
	checkForm(t, jumpFalse(0), null, ret)
	checkForm(t, null, jumpTrue(0), ret)
	checkRight(t, 1, jump(0), null, ret)
	checkRight(t, 3, null, null, null, ret)
	checkRight(t, 4, null, null, null, block(0, 2), null, end, pop, pop, pop, ret)
}

// Code that ends where more is asked; or has nothing.
func TestEnds(t *testing.T) {
	checkForm(t)
	checkCheck(t, []byte{}, 0, api.ErrForm)
	checkForm(t, null)
	checkForm(t, null, pop)
	checkForm(t, null, jumpTrue(-4))
	checkForm(t, null, dup, jumpFalse(-4), pop)
	checkRight(t, 1, null, ret, null, jumpFalse(-5), pop)
	checkRight(t, 0, jump(-3))
	checkRight(t, 1, null, ret, null)
	checkRight(t, 1, null, ret, pop)
	checkForm(t, block(0, 2), null, end)
	checkForm(t, block(0, 1), null, ret)
	checkForm(t, block(0, 0), ret)
	checkForm(t, block(0, 0))
	checkForm(t, block(0, 1), end, ret)
	checkForm(t, null, end)
	checkRight(t, 1, null, ret, end)
	checkForm(t, block(0, 2), null, end, end)
	checkForm(t, jump(1), end, null, end)
	checkRight(t, 1, jump(1), end, null, ret)
}

// What stands in the bytes: names by a number.
func TestNamed(t *testing.T) {
	for _, op := range []int{PushLit, Send, SuperSend, PushTemp, StoreTemp, PushField, StoreField} {
		isLit, isSlot := op == PushLit || op == Send || op == SuperSend, op == PushTemp || op == StoreTemp
		for _, limit := range []int{math.MinInt, -1, 0, 1, 2, 7, 255, 256, math.MaxInt} {
			for _, a := range []int{0, 1, 2, 6, 7, 254, 255} {
				lits, slots, fields := 0, -5, 0
				switch {
				case isLit:
					lits = limit
				case isSlot:
					slots = limit
				default:
					fields = limit
				}
				want, wantMost := api.OK, 1
				if a >= limit {
					want, wantMost = api.ErrForm, 0
				}
				i := Instr{op, a, 0}
				if got, e := Check(coded(null, pop, null, pop, null, jump(0), i, ret), lits, slots, fields); e != want || e == api.OK && got > 2 {
					t.Errorf("P14.3: Check of %v with %d, %d, %d: %d, %d", i, lits, slots, fields, got, e)
				}
				// Also where it isn't reached.
				if got, e := Check(coded(null, ret, i), lits, slots, fields); e != want || got != wantMost {
					t.Errorf("P14.3: Check of %v, not reached, with %d, %d, %d: %d, %d", i, lits, slots, fields, got, e)
				}
				if got, e := Check(coded(null, ret, block(0, len(coded(i))), i), lits, slots, fields); e != want || got != wantMost {
					t.Errorf("P14.3: Check of %v, in a block, with %d, %d, %d: %d, %d", i, lits, slots, fields, got, e)
				}
			}
		}
	}
	checkRight(t, 1, Instr{PushSmall, 127, 0}, ret)
}

// What stands in the bytes: instructions, and blocks' code, that go beyond the end; bytes that are no Op. Of both ErrForm is told, wherever it stands.
func TestBytes(t *testing.T) {
	for _, l := range likes() {
		b := l.bytesOf(0, 0)
		for cut := 1; cut < len(b); cut++ {
			checkCheck(t, b[:cut], 0, api.ErrEnd)
			checkCheck(t, append(coded(null, ret), b[:cut]...), 0, api.ErrEnd)
			// In a block's code, with more behind; reached or not.
			inner := append(coded(block(0, cut)), b[:cut]...)
			checkCheck(t, append(inner, coded(ret)...), 0, api.ErrEnd)
			checkCheck(t, append(append(coded(null, ret), inner...), coded(null, null, null, null)...), 0, api.ErrEnd)
			checkCheck(t, append(append(coded(pop), inner...), coded(jump(-3))...), 0, api.ErrEnd)
			checkCheck(t, append(inner, 99), 0, api.ErrForm)
			checkCheck(t, append(append(coded(block(0, 1)), 99), b[:cut]...), 0, api.ErrForm)
		}
	}
	for op := 20; op < 256; op++ {
		b := byte(op)
		checkCheck(t, []byte{b}, 0, api.ErrForm)
		checkCheck(t, append(coded(null, ret), b), 0, api.ErrForm)
		checkCheck(t, append(coded(null, ret), b, PushSmall), 0, api.ErrForm)
		checkCheck(t, append(coded(null, ret, block(0, 1)), b), 0, api.ErrForm)
		checkCheck(t, append(coded(null, ret, block(0, 1)), b, PushSmall), 0, api.ErrForm)
	}
	checkForm(t, Instr{PushLit, 3, 0}, block(0, 1))
	checkForm(t, block(0, 3), block(0, 1), Instr{PushTemp, 3, 0})
}

// A block's code that goes beyond its part: it isn't looked at, nor what stands behind.
func TestBeyond(t *testing.T) {
	checkEnd(t, block(0, 1))
	checkEnd(t, block(0, 65535), null, end)
	checkEnd(t, null, ret, block(0, 3), null, end)
	checkEnd(t, block(0, 6), block(0, 3), null, end, null, ret)
	checkEnd(t, block(0, 6), block(0, 3), null, end)
	checkRight(t, 1, block(0, 7), block(0, 2), null, end, end, ret)
	checkRight(t, 2, block(0, 8), block(0, 3), null, null, end, ret, ret)
	checkForm(t, block(0, 7), block(0, 3), null, null, end, ret, ret)
	checkCheck(t, append(coded(block(0, 2)), 99), 0, api.ErrEnd)
	checkCheck(t, append(coded(block(0, 5), block(0, 2)), 99), 0, api.ErrEnd)
	checkEnd(t, block(0, 6), block(0, 3), Instr{PushLit, 3, 0}, ret)
	// But what stands ahead is, and what stands behind in the part around.
	checkForm(t, Instr{PushLit, 3, 0}, block(0, 1))
	checkForm(t, block(0, 4), block(0, 1), Instr{PushLit, 3, 0})
	checkForm(t, block(0, 2), Instr{PushLit, 3, 0}, block(0, 1))
	checkCheck(t, append(coded(block(0, 4), block(0, 1)), 99), 0, api.ErrForm)
	checkForm(t, jump(4), block(0, 1))
	checkForm(t, jump(5), block(0, 1), null)
	checkEnd(t, jump(0), block(0, 1))
	checkEnd(t, jump(-3), block(0, 1))
	// One that is cut begins in its part; its other bytes are no beginning.
	checkCheck(t, append(coded(jump(0)), Send, 0), 0, api.ErrEnd)
	checkCheck(t, append(coded(jump(-3)), Send, 0), 0, api.ErrEnd)
	checkCheck(t, append(coded(jump(1)), Send, 0), 0, api.ErrForm)
	checkCheck(t, append(coded(jump(2)), Send, 0), 0, api.ErrForm)
	checkCheck(t, append(coded(jump(3)), Send, 0), 0, api.ErrForm)
}

// Where jumps go, reached or not.
func TestJumps(t *testing.T) {
	for _, j := range []func(int) Instr{jump, jumpTrue, jumpFalse} {
		for goal := -3; goal < 24; goal++ {
			// At 0 null, at 1 pop, at 2 null, at 3 pop, at 4 null, at 5 a small, at 7 a block with its null at 11 and its end at 12, at 13 ret; the jump at 15 isn't reached.
			want, wantE := 3, api.OK
			if goal < 0 || goal == 6 || goal > 7 && goal < 13 || goal > 15 {
				want, wantE = 0, api.ErrForm
			}
			checkCheck(t, coded(null, pop, null, pop, null, small, block(0, 2), null, end, ret, null, j(goal-18)), want, wantE)
			// The same, within a block that isn't reached.
			if want > 0 {
				want = 1
			}
			checkCheck(t, coded(null, ret, block(0, 18), null, pop, null, pop, null, small, block(0, 2), null, end, ret, null, j(goal-18)), want, wantE)
			// Of a jump at 1 that is reached, with a null at 4, where the depth is another one.
			list := coded(null, j(goal-4), null, small, block(0, 2), null, end, ret, null)
			want, wantE = modelCheck(list, 3, 3, 3)
			checkCheck(t, list, want, wantE)
			// Of one at 5 in a block from 4 to 11.
			list = coded(block(0, 7), null, j(goal-8), null, null, end, ret)
			want, wantE = modelCheck(list, 3, 3, 3)
			checkCheck(t, list, want, wantE)
		}
	}
	checkRight(t, 1, jump(1), null, null, ret)
	checkRight(t, 1, jump(3), jump(3), jump(-6), null, ret)
	checkRight(t, 1, null, jumpTrue(4), jump(-7), pop, null, ret)
	checkForm(t, jump(1), null)
	checkForm(t, null, ret, jump(0))
	checkForm(t, null, ret, jump(1))
	checkForm(t, null, ret, jump(-6))
	checkForm(t, null, ret, jump(-2), block(0, 3), jump(0), ret)
	checkForm(t, null, ret, jump(1), Instr{PushTemp, 0, 0})
	// As far as can be.
	far := append([]Instr{null, pop, jump(32767)}, repeat(jump(0), 10922, Instr{Op: PushTrue}, null, ret)...)
	checkRight(t, 1, far...)
	far = append([]Instr{jump(32767)}, repeat(jump(0), 10922, Instr{Op: PushTrue}, jump(-32768), ret)...)
	checkForm(t, far...)
	far = append([]Instr{jump(32762), null, ret}, repeat(jump(-3), 10920, jump(-32765))...)
	checkRight(t, 1, far...)
	checkForm(t, null, ret, jump(-32768))
	checkForm(t, null, ret, jump(32767))
}

// What is reached with which depth.
func TestReached(t *testing.T) {
	checkForm(t, null, null, jumpTrue(1), pop, null, ret)
	checkForm(t, null, null, jumpTrue(1), null, ret)
	checkForm(t, null, null, jumpTrue(1), pop, ret)
	checkRight(t, 2, null, null, jumpTrue(2), pop, null, ret)
	checkRight(t, 1, null, jumpFalse(4), null, jump(1), null, ret)
	checkForm(t, null, jumpFalse(4), null, jump(0), null, ret)
	checkForm(t, null, jump(-4))
	checkRight(t, 1, null, pop, jump(-5))
	checkForm(t, null, null, pop, jump(-6))
	checkForm(t, null, null, jumpTrue(-4), pop, ret)
	checkRight(t, 2, null, null, jumpTrue(-4), ret)
	checkForm(t, null, null, null, jumpTrue(-5), ret)
	// What isn't reached is only looked at.
	checkRight(t, 1, null, ret, pop, pop, end, dup, ret, block(0, 0), null)
	checkRight(t, 0, jump(-3), null)
	checkRight(t, 1, jump(2), pop, pop, null, ret)
	checkRight(t, 1, null, ret, block(0, 2), pop, dup, pop)
	checkRight(t, 1, jump(6), block(9, 2), pop, dup, null, ret)
	checkRight(t, 1, null, ret, jump(-4), null, jump(-8), jump(-12))
	checkForm(t, null, jumpTrue(0), pop, null, ret)
}

func TestBlocks(t *testing.T) {
	checkRight(t, 1, block(0, 2), null, end, ret)
	checkRight(t, 1, block(0, 2), null, ret, ret)
	checkRight(t, 1, block(1, 1), end, ret)
	checkForm(t, block(0, 1), end, ret)
	checkRight(t, 2, block(2, 2), pop, end, ret)
	checkForm(t, block(2, 3), pop, pop, end, ret)
	checkRight(t, 4, block(2, 3), null, null, end, ret)
	checkForm(t, block(2, 3), null, null, pop, ret)
	checkRight(t, 5, block(5, 1), end, ret)
	checkRight(t, 5, null, null, block(5, 1), end, pop, pop, ret)
	checkRight(t, 3, null, null, block(0, 2), null, end, pop, pop, ret)
	checkForm(t, null, block(0, 1), pop, ret)
	checkForm(t, null, block(0, 1), ret, ret)
	// Its own stack, its own depths.
	checkRight(t, 5, block(0, 13), block(3, 8), null, block(0, 2), null, end, ret, end, ret)
	checkForm(t, block(0, 13), block(3, 8), null, block(0, 2), pop, end, ret, end, ret)
	checkForm(t, block(0, 13), block(3, 8), null, block(0, 2), null, end, ret, pop, ret)
	checkForm(t, block(0, 2), null, end, block(0, 1), end, ret)
	checkRight(t, 2, block(0, 2), null, end, block(0, 2), null, ret, ret)
	checkRight(t, 2, block(1, 5), dup, jumpTrue(-4), end, ret)
	checkForm(t, block(1, 4), dup, jumpTrue(-4), ret)
	checkForm(t, block(1, 3), jumpTrue(-3), ret)
	checkRight(t, 1, block(1, 3), jump(-3), ret)
	// Reached by a way back: once more with the same depth.
	checkRight(t, 1, block(0, 2), null, end, jumpTrue(-9), null, ret)
}

// A stack of 200, and of one more; that isn't told where something is wrong, or where it isn't reached.
func TestStack(t *testing.T) {
	checkRight(t, 199, repeat(null, 199, ret)...)
	checkRight(t, 200, repeat(null, 200, ret)...)
	checkCheck(t, coded(repeat(null, 201, ret)...), 0, api.ErrSize)
	checkCheck(t, coded(repeat(null, 4000, ret)...), 0, api.ErrSize)
	checkRight(t, 200, append([]Instr{null}, repeat(dup, 199, ret)...)...)
	checkCheck(t, coded(append([]Instr{null}, repeat(dup, 200, ret)...)...), 0, api.ErrSize)
	checkRight(t, 200, block(200, 1), end, ret)
	checkCheck(t, coded(block(201, 1), end, ret), 0, api.ErrSize)
	checkCheck(t, coded(block(255, 1), end, ret), 0, api.ErrSize)
	checkCheck(t, coded(block(200, 2), null, end, ret), 0, api.ErrSize)
	checkRight(t, 1, null, ret, block(255, 1), end)
	checkRight(t, 1, append([]Instr{null, ret}, repeat(null, 300)...)...)
	checkForm(t, repeat(null, 201, block(0, 1), end, ret)...)
	checkForm(t, repeat(null, 201)...)
	checkForm(t, repeat(null, 201, ret, jump(1))...)
	checkEnd(t, repeat(null, 201, ret, block(0, 1))...)
	checkForm(t, repeat(null, 201, Instr{PushLit, 3, 0}, ret)...)
	checkForm(t, repeat(null, 201, jump(-4))...)
}

// By chance, held against the model; each answer is met often enough.
func TestChance(t *testing.T) {
	r := rand.New(rand.NewSource(143))
	counts := map[api.Errno]int{}
	for range 40000 {
		for _, b := range [][]byte{someCode(r), spoilt(r), soup(r), soup(r)} {
			lits, slots, fields := 4, 4, 4
			if r.Intn(8) == 0 {
				lits, slots, fields = 1+r.Intn(4), 1+r.Intn(4), 1+r.Intn(4)
			}
			got, e := Check(b, lits, slots, fields)
			want, wantE := modelCheck(b, lits, slots, fields)
			if got != want || e != wantE {
				t.Fatalf("P14.3: Check(%x, %d, %d, %d) = %d, %d, want %d, %d", b, lits, slots, fields, got, e, want, wantE)
			}
			counts[e]++
		}
	}
	for e, least := range map[api.Errno]int{api.OK: 30000, api.ErrForm: 30000, api.ErrEnd: 10000} {
		if counts[e] < least {
			t.Errorf("P14.3: only %d times %d", counts[e], e)
		}
	}
}

// Code that is cut at each byte, and in which each byte is each other one.
func TestCut(t *testing.T) {
	r := rand.New(rand.NewSource(1431))
	for range 150 {
		b := someCode(r)
		for cut := range len(b) + 1 {
			got, e := Check(b[:cut], 4, 4, 4)
			if want, wantE := modelCheck(b[:cut], 4, 4, 4); got != want || e != wantE {
				t.Fatalf("P14.3: Check(%x) = %d, %d, want %d, %d", b[:cut], got, e, want, wantE)
			}
		}
		for n := range 256 {
			other := bytes.Clone(b)
			other[r.Intn(len(b))] = byte(n)
			got, e := Check(other, 4, 4, 4)
			if want, wantE := modelCheck(other, 4, 4, 4); got != want || e != wantE {
				t.Fatalf("P14.3: Check(%x) = %d, %d, want %d, %d", other, got, e, want, wantE)
			}
		}
	}
}

// Great code: each call ends.
func TestGreat(t *testing.T) {
	checkCheck(t, coded(append(repeat(jump(0), 100000), null, ret)...), 1, api.OK)
	checkCheck(t, bytes.Repeat([]byte{PushNil, Pop}, 200000), 0, api.ErrForm)
	// Blocks within one another, as deep as their sizes let them be.
	var deep []byte
	for deep = coded(null, end); len(deep)+5 <= 65535; {
		deep = append(append(coded(block(0, len(deep))), deep...), End)
	}
	deep = append(append(coded(block(0, len(deep))), deep...), Return)
	checkCheck(t, deep, 1, api.OK)
	checkCheck(t, append(deep, PushLit), 0, api.ErrEnd)
	deep[len(deep)/2] = 99
	checkCheck(t, append(deep, PushLit), 0, api.ErrForm)
}

// P14.4

// walk: goes through code by chance, and tells the greatest depth; below 0: it took more than there was, or came to what isn't its part's.
func walk(r *rand.Rand, table []like, b []byte, from, to, depth, steps int) int {
	most := depth
	for at := from; steps > 0; steps-- {
		if at < from || at >= to {
			return -1
		}
		i, behind, e := Decode(b, at)
		l := table[i.Op]
		takes := l.takes
		if l.takesArguments {
			takes += i.B
		}
		if e != api.OK || takes > depth {
			return -1
		}
		depth += l.puts - takes
		most = max(most, depth)
		at = behind
		switch i.Op {
		case Return, End:
			return most
		case Block:
			at += i.B
			inner := walk(r, table, b, behind, at, i.A, steps/2)
			if inner < 0 {
				return -1
			}
			most = max(most, inner)
		case Jump:
			at += i.A
		case JumpTrue, JumpFalse:
			at += i.A * r.Intn(2)
		}
	}
	return most
}

// However its jumps go: never more than was told; and so much, if it goes often enough.
func TestWalks(t *testing.T) {
	r := rand.New(rand.NewSource(144))
	right, table := 0, likes()
	for range 4000 {
		for _, b := range [][]byte{someCode(r), spoilt(r), soup(r)} {
			told, e := Check(b, 4, 4, 4)
			if e != api.OK {
				continue
			}
			right++
			most := 0
			for range 40 {
				depth := walk(r, table, b, 0, len(b), 0, 400)
				if depth < 0 || depth > told {
					t.Fatalf("P14.4: %x needs %d, told %d", b, depth, told)
				}
				most = max(most, depth)
			}
			if most < told && len(b) < 30 {
				t.Fatalf("P14.4: %x needs %d, told %d", b, most, told)
			}
		}
	}
	if right < 5000 {
		t.Errorf("P14.4: only %d are right", right)
	}
}
