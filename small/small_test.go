package small

import (
	"math"
	"math/big"
	"strings"
	"testing"

	"foundling/api"
)

// edges: numbers of words at and around the bounds of what each call asks about.
func edges() []int64 {
	out := []int64{0}
	for _, n := range []int64{1, 2, 3, 5, 7, 12, 61, 62, 63, 64, 65, 100, 1<<31 - 1, 1 << 31, 1<<31 + 1, 1 << 32, 1<<61 - 1, 1 << 61, 1<<61 + 1, 0x123456789abcdef, api.MaxInt - 1, api.MaxInt} {
		out = append(out, n, -n)
	}
	return append(out, api.MinInt)
}

// none: words that are no numbers.
func none() []api.Word {
	return []api.Word{0, 2, 4, 1 << 63, 1<<62 + 2, ^api.Word(0) - 1}
}

// word: a number's, reckoned otherwise than Of does.
func word(n int64) api.Word { return api.Word(2*uint64(n) + 1) }

type operation struct {
	name string
	call func(a, b api.Word) (api.Word, api.Errno)
	want func(z, a, b *big.Int) bool // false: the divisor is 0
}

// sure: an operation that always comes to something.
func sure(f func(z, a, b *big.Int) *big.Int) func(z, a, b *big.Int) bool {
	return func(z, a, b *big.Int) bool {
		f(z, a, b)
		return true
	}
}

// unless0: one that asks for a divisor.
func unless0(f func(z, a, b *big.Int)) func(z, a, b *big.Int) bool {
	return func(z, a, b *big.Int) bool {
		if b.Sign() == 0 {
			return false
		}
		f(z, a, b)
		return true
	}
}

// downward: the quotient down to the next whole number, and what is left.
func downward(a, b *big.Int) (*big.Int, *big.Int) {
	q, r := new(big.Int).QuoRem(a, b, new(big.Int))
	if r.Sign() != 0 && r.Sign() != b.Sign() {
		q.Sub(q, big.NewInt(1))
		r.Add(r, b)
	}
	return q, r
}

// shifted: by no more places than tell the answer from the others.
func shifted(z, a, b *big.Int) {
	by := int64(200)
	if b.IsInt64() && b.Int64() < by && b.Int64() > -by {
		by = b.Int64()
	} else if b.Sign() < 0 {
		by = -by
	}
	if by < 0 {
		z.Rsh(a, uint(-by))
		return
	}
	z.Lsh(a, uint(by))
}

func operations() []operation {
	return []operation{
		{"Add", Add, sure((*big.Int).Add)},
		{"Sub", Sub, sure((*big.Int).Sub)},
		{"Mul", Mul, sure((*big.Int).Mul)},
		{"Floor", Floor, unless0(func(z, a, b *big.Int) { q, _ := downward(a, b); z.Set(q) })},
		{"Mod", Mod, unless0(func(z, a, b *big.Int) { _, r := downward(a, b); z.Set(r) })},
		{"Quo", Quo, unless0(func(z, a, b *big.Int) { z.Quo(a, b) })},
		{"Rem", Rem, unless0(func(z, a, b *big.Int) { z.Rem(a, b) })},
		{"And", And, sure((*big.Int).And)},
		{"Or", Or, sure((*big.Int).Or)},
		{"Xor", Xor, sure((*big.Int).Xor)},
		{"Shift", Shift, func(z, a, b *big.Int) bool { shifted(z, a, b); return true }},
	}
}

// P1.1

func TestIs(t *testing.T) {
	for _, n := range edges() {
		if !Is(word(n)) {
			t.Errorf("P1.1: Is(%#x) is false", word(n))
		}
	}
	for _, w := range none() {
		if Is(w) {
			t.Errorf("P1.1: Is(%#x) is true", w)
		}
	}
}

func TestOf(t *testing.T) {
	for n, want := range map[int64]api.Word{0: 1, 1: 3, 5: 11, -1: 1<<64 - 1, -2: 1<<64 - 3, api.MaxInt: 1<<63 - 1, api.MinInt: 1<<63 + 1} {
		if w, e := Of(n); w != want || e != api.OK {
			t.Errorf("P1.1: Of(%d) = %#x, %d", n, w, e)
		}
	}
	for _, n := range edges() {
		if w, e := Of(n); w != word(n) || e != api.OK {
			t.Errorf("P1.1: Of(%d) = %#x, %d", n, w, e)
		}
	}
	for _, n := range []int64{api.MaxInt + 1, api.MaxInt + 2, api.MinInt - 1, api.MinInt - 2, math.MaxInt64, math.MinInt64} {
		if w, e := Of(n); w != 0 || e != api.ErrOver {
			t.Errorf("P1.1: Of(%d) = %#x, %d", n, w, e)
		}
	}
}

func TestValue(t *testing.T) {
	for w, want := range map[api.Word]int64{1: 0, 3: 1, 11: 5, 1<<64 - 1: -1, 1<<63 - 1: api.MaxInt, 1<<63 + 1: api.MinInt} {
		if n, e := Value(w); n != want || e != api.OK {
			t.Errorf("P1.1: Value(%#x) = %d, %d", w, n, e)
		}
	}
	for _, want := range edges() {
		if n, e := Value(word(want)); n != want || e != api.OK {
			t.Errorf("P1.1: Value(%#x) = %d, %d", word(want), n, e)
		}
	}
	for _, w := range none() {
		if n, e := Value(w); n != 0 || e != api.ErrKind {
			t.Errorf("P1.1: Value(%#x) = %d, %d", w, n, e)
		}
	}
}

// P1.2

func TestReckoned(t *testing.T) {
	for _, o := range operations() {
		for _, a := range edges() {
			for _, b := range edges() {
				checkReckoned(t, o, a, b)
			}
		}
	}
}

func checkReckoned(t *testing.T, o operation, a, b int64) {
	t.Helper()
	var z big.Int
	want, wantError := api.Word(0), api.OK
	if !o.want(&z, big.NewInt(a), big.NewInt(b)) {
		wantError = api.ErrArg
	} else if !z.IsInt64() || z.Int64() < api.MinInt || z.Int64() > api.MaxInt {
		wantError = api.ErrOver
	} else {
		want = word(z.Int64())
	}
	if w, e := o.call(word(a), word(b)); w != want || e != wantError {
		t.Errorf("P1.2: %s(%d, %d) = %#x, %d; want %#x, %d", o.name, a, b, w, e, want, wantError)
	}
}

// The oracle above is held against what the document writes out.
func TestReckonedByHand(t *testing.T) {
	for _, c := range []struct {
		name    string
		call    func(a, b api.Word) (api.Word, api.Errno)
		a, b, n int64
		e       api.Errno
	}{
		{"Floor", Floor, -7, 2, -4, 0}, {"Floor", Floor, 7, -2, -4, 0}, {"Floor", Floor, -7, -2, 3, 0}, {"Floor", Floor, -8, 2, -4, 0}, {"Floor", Floor, api.MinInt, -1, 0, api.ErrOver},
		{"Mod", Mod, -7, 2, 1, 0}, {"Mod", Mod, 7, -2, -1, 0}, {"Mod", Mod, -7, -2, -1, 0}, {"Mod", Mod, -8, 2, 0, 0}, {"Mod", Mod, api.MinInt, -1, 0, 0},
		{"Quo", Quo, -7, 2, -3, 0}, {"Quo", Quo, 7, -2, -3, 0}, {"Quo", Quo, api.MinInt, -1, 0, api.ErrOver},
		{"Rem", Rem, -7, 2, -1, 0}, {"Rem", Rem, 7, -2, 1, 0}, {"Rem", Rem, api.MinInt, -1, 0, 0},
		{"Floor", Floor, 1, 0, 0, api.ErrArg}, {"Mod", Mod, 0, 0, 0, api.ErrArg}, {"Quo", Quo, api.MinInt, 0, 0, api.ErrArg}, {"Rem", Rem, -1, 0, 0, api.ErrArg},
		{"Add", Add, api.MaxInt, 1, 0, api.ErrOver}, {"Add", Add, api.MinInt, -1, 0, api.ErrOver}, {"Add", Add, api.MinInt, api.MaxInt, -1, 0}, {"Add", Add, api.MinInt, api.MinInt, 0, api.ErrOver},
		{"Sub", Sub, api.MinInt, 1, 0, api.ErrOver}, {"Sub", Sub, 0, api.MinInt, 0, api.ErrOver}, {"Sub", Sub, -1, api.MinInt, api.MaxInt, 0},
		{"Mul", Mul, 1 << 31, -1 << 31, api.MinInt, 0}, {"Mul", Mul, 1 << 31, 1 << 31, 0, api.ErrOver}, {"Mul", Mul, 1 << 32, 1 << 32, 0, api.ErrOver}, {"Mul", Mul, -1, api.MinInt, 0, api.ErrOver}, {"Mul", Mul, api.MinInt, -1, 0, api.ErrOver}, {"Mul", Mul, api.MinInt, 2, 0, api.ErrOver}, {"Mul", Mul, 0, api.MinInt, 0, 0},
		{"And", And, -1, 12, 12, 0}, {"And", And, -4, -6, -8, 0}, {"Or", Or, -8, 3, -5, 0}, {"Or", Or, 4, 3, 7, 0}, {"Xor", Xor, -1, 5, -6, 0}, {"Xor", Xor, api.MinInt, api.MaxInt, -1, 0},
		{"Shift", Shift, 1, 61, 1 << 61, 0}, {"Shift", Shift, 1, 62, 0, api.ErrOver}, {"Shift", Shift, 1, 63, 0, api.ErrOver}, {"Shift", Shift, 1, 64, 0, api.ErrOver}, {"Shift", Shift, 1, api.MaxInt, 0, api.ErrOver},
		{"Shift", Shift, -1, 62, api.MinInt, 0}, {"Shift", Shift, -1, 63, 0, api.ErrOver}, {"Shift", Shift, -1, 64, 0, api.ErrOver}, {"Shift", Shift, -2, 62, 0, api.ErrOver}, {"Shift", Shift, 4, 62, 0, api.ErrOver},
		{"Shift", Shift, 0, 62, 0, 0}, {"Shift", Shift, 0, 64, 0, 0}, {"Shift", Shift, 0, api.MaxInt, 0, 0}, {"Shift", Shift, api.MinInt, 0, api.MinInt, 0}, {"Shift", Shift, api.MinInt, 1, 0, api.ErrOver},
		{"Shift", Shift, -5, -1, -3, 0}, {"Shift", Shift, 5, -1, 2, 0}, {"Shift", Shift, api.MinInt, -62, -1, 0}, {"Shift", Shift, api.MinInt, -61, -2, 0}, {"Shift", Shift, api.MaxInt, -62, 0, 0}, {"Shift", Shift, -1, -64, -1, 0}, {"Shift", Shift, 5, api.MinInt, 0, 0}, {"Shift", Shift, -5, api.MinInt, -1, 0},
	} {
		want := api.Word(0)
		if c.e == api.OK {
			want = word(c.n)
		}
		if w, e := c.call(word(c.a), word(c.b)); w != want || e != c.e {
			t.Errorf("P1.2: %s(%d, %d) = %#x, %d; want %#x, %d", c.name, c.a, c.b, w, e, want, c.e)
		}
	}
}

// Words that are no numbers are told ahead of a divisor of 0 and of what would be too great.
func TestReckonedKind(t *testing.T) {
	for _, o := range operations() {
		for _, w := range none() {
			for _, n := range []int64{0, 1, -1, 64, api.MaxInt, api.MinInt} {
				for _, pair := range [][2]api.Word{{w, word(n)}, {word(n), w}, {w, w}} {
					if got, e := o.call(pair[0], pair[1]); got != 0 || e != api.ErrKind {
						t.Errorf("P1.2: %s(%#x, %#x) = %#x, %d", o.name, pair[0], pair[1], got, e)
					}
				}
			}
		}
	}
}

func TestLess(t *testing.T) {
	for _, a := range edges() {
		for _, b := range edges() {
			if is, e := Less(word(a), word(b)); is != (a < b) || e != api.OK {
				t.Errorf("P1.2: Less(%d, %d) = %v, %d", a, b, is, e)
			}
		}
		for _, w := range none() {
			for _, pair := range [][2]api.Word{{w, word(a)}, {word(a), w}, {w, w}} {
				if is, e := Less(pair[0], pair[1]); is || e != api.ErrKind {
					t.Errorf("P1.2: Less(%#x, %#x) = %v, %d", pair[0], pair[1], is, e)
				}
			}
		}
	}
}

// P1.3

func TestTogether(t *testing.T) {
	for _, a := range edges() {
		for _, b := range edges() {
			if b == 0 || a == api.MinInt && b == -1 {
				continue
			}
			checkTogether(t, "Floor and Mod", Floor, Mod, a, b)
			checkTogether(t, "Quo and Rem", Quo, Rem, a, b)
			if m, _ := Mod(word(a), word(b)); m != word(0) && (m>>63 == 1) != (b < 0) {
				t.Errorf("P1.3: Mod(%d, %d) isn't of the divisor's sign", a, b)
			}
			if r, _ := Rem(word(a), word(b)); r != word(0) && (r>>63 == 1) != (a < 0) {
				t.Errorf("P1.3: Rem(%d, %d) isn't of the number's sign", a, b)
			}
		}
	}
}

func checkTogether(t *testing.T, name string, quotient, rest func(a, b api.Word) (api.Word, api.Errno), a, b int64) {
	t.Helper()
	q, e1 := quotient(word(a), word(b))
	r, e2 := rest(word(a), word(b))
	p, e3 := Mul(word(b), q)
	sum, e4 := Add(p, r)
	// b times Floor can be below MinInt, though the sum isn't: there it is told as too great.
	if e3 == api.ErrOver {
		n, _ := Value(q)
		m, _ := Value(r)
		z := new(big.Int).Mul(big.NewInt(b), big.NewInt(n))
		if z.Add(z, big.NewInt(m)); z.Cmp(big.NewInt(a)) != 0 {
			t.Errorf("P1.3: %s of %d, %d: %d, %d", name, a, b, n, m)
		}
		return
	}
	if e1 != 0 || e2 != 0 || e3 != 0 || e4 != 0 || sum != word(a) {
		t.Errorf("P1.3: %s of %d, %d: %#x, %#x", name, a, b, q, r)
	}
}

// P1.4

func TestText(t *testing.T) {
	for n, want := range map[int64]string{0: "0", 7: "7", -7: "-7", 1000: "1000", api.MaxInt: "4611686018427387903", api.MinInt: "-4611686018427387904", math.MaxInt64: "9223372036854775807", math.MinInt64: "-9223372036854775808"} {
		if s := Text(n); s != want {
			t.Errorf("P1.4: Text(%d) = %q", n, s)
		}
	}
	for _, n := range edges() {
		if back, e := Parse(Text(n)); back != n || e != api.OK {
			t.Errorf("P1.4: Parse(%q) = %d, %d", Text(n), back, e)
		}
	}
}

func TestParse(t *testing.T) {
	long := strings.Repeat("0", 100000)
	for s, want := range map[string]int64{"0": 0, "-0": 0, "00": 0, "-00": 0, "007": 7, "-07": -7, "9": 9, "4611686018427387903": api.MaxInt, "-4611686018427387904": api.MinInt, long: 0, long + "12": 12, "-" + long + "4611686018427387904": api.MinInt} {
		if n, e := Parse(s); n != want || e != api.OK {
			t.Errorf("P1.4: Parse(%.40q) = %d, %d", s, n, e)
		}
	}
}

func TestParseWrong(t *testing.T) {
	for _, s := range []string{"", "-", "--1", "+1", "+", " 1", "1 ", "1-", "-1-", "1_0", "0x1", "1e3", "1.0", "a", "12a", "\x00", "1\n", "/", ":", "\u0661", "\xff", strings.Repeat("9", 40) + "x", "-" + strings.Repeat("9", 40) + "-"} {
		if n, e := Parse(s); n != 0 || e != api.ErrForm {
			t.Errorf("P1.4: Parse(%q) = %d, %d", s, n, e)
		}
	}
	for _, s := range []string{"4611686018427387904", "-4611686018427387905", "9223372036854775807", "9223372036854775808", "-9223372036854775808", "-9223372036854775809", "18446744073709551616", "18446744073709551617", "-18446744073709551617", "004611686018427387904", strings.Repeat("9", 100000), "-1" + strings.Repeat("0", 100000)} {
		if n, e := Parse(s); n != 0 || e != api.ErrOver {
			t.Errorf("P1.4: Parse(%.40q) = %d, %d", s, n, e)
		}
	}
}
