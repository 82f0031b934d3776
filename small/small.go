// Package small is layer 1: see shared/doc/01-small.md.
package small

import (
	"strconv"
	"strings"

	"foundling/api"
)

// Is: is it a number?
func Is(w api.Word) bool { return w&1 == 1 }

// Of: a number's word.
func Of(n int64) (api.Word, api.Errno) {
	if n < api.MinInt || n > api.MaxInt {
		return 0, api.ErrOver
	}
	return api.Word(n)<<1 | 1, api.OK
}

// Value: a word's number.
func Value(w api.Word) (int64, api.Errno) {
	if !Is(w) {
		return 0, api.ErrKind
	}
	return number(w), api.OK
}

// number: of a word that is known to be one.
func number(w api.Word) int64 { return int64(w) >> 1 }

// reckon: the word of what f makes of two words' numbers.
func reckon(a, b api.Word, f func(x, y int64) (int64, api.Errno)) (api.Word, api.Errno) {
	if !Is(a) || !Is(b) {
		return 0, api.ErrKind
	}
	n, e := f(number(a), number(b))
	if e != api.OK {
		return 0, e
	}
	return Of(n)
}

// whole: reckons by an f that always answers, within 64 bits.
func whole(a, b api.Word, f func(x, y int64) int64) (api.Word, api.Errno) {
	return reckon(a, b, func(x, y int64) (int64, api.Errno) { return f(x, y), api.OK })
}

// divided: reckons by an f that asks for a divisor.
func divided(a, b api.Word, f func(x, y int64) int64) (api.Word, api.Errno) {
	return reckon(a, b, func(x, y int64) (int64, api.Errno) {
		if y == 0 {
			return 0, api.ErrArg
		}
		return f(x, y), api.OK
	})
}

// Add: a + b. Two numbers of 63 bits have a sum, and a difference, of 64.
func Add(a, b api.Word) (api.Word, api.Errno) {
	return whole(a, b, func(x, y int64) int64 { return x + y })
}

// Sub: a - b.
func Sub(a, b api.Word) (api.Word, api.Errno) {
	return whole(a, b, func(x, y int64) int64 { return x - y })
}

// Mul: a times b.
func Mul(a, b api.Word) (api.Word, api.Errno) {
	return reckon(a, b, func(x, y int64) (int64, api.Errno) {
		// A product that has wrapped round is off by a multiple of 2^64: divided by x it isn't y.
		if x != 0 && x*y/x != y {
			return 0, api.ErrOver
		}
		return x * y, api.OK
	})
}

// Floor: a divided by b, down to the next whole number.
func Floor(a, b api.Word) (api.Word, api.Errno) { return divided(a, b, floor) }

// Mod: what is left of Floor.
func Mod(a, b api.Word) (api.Word, api.Errno) {
	return divided(a, b, func(x, y int64) int64 { return x - floor(x, y)*y })
}

func floor(x, y int64) int64 {
	if x%y != 0 && (x < 0) != (y < 0) {
		return x/y - 1
	}
	return x / y
}

// Quo: a divided by b, without the rest.
func Quo(a, b api.Word) (api.Word, api.Errno) {
	return divided(a, b, func(x, y int64) int64 { return x / y })
}

// Rem: what is left of Quo.
func Rem(a, b api.Word) (api.Word, api.Errno) {
	return divided(a, b, func(x, y int64) int64 { return x % y })
}

// And: bit by bit.
func And(a, b api.Word) (api.Word, api.Errno) {
	return whole(a, b, func(x, y int64) int64 { return x & y })
}

// Or: bit by bit.
func Or(a, b api.Word) (api.Word, api.Errno) {
	return whole(a, b, func(x, y int64) int64 { return x | y })
}

// Xor: bit by bit.
func Xor(a, b api.Word) (api.Word, api.Errno) {
	return whole(a, b, func(x, y int64) int64 { return x ^ y })
}

// Shift: a times 2 to the power b, down to the next whole number.
func Shift(a, b api.Word) (api.Word, api.Errno) {
	return reckon(a, b, func(x, y int64) (int64, api.Errno) {
		if y < 0 {
			return x >> -y, api.OK
		}
		// Bits that are lost on the way up don't come back on the way down; of 64 places and more 0 alone does.
		if x<<y>>y != x {
			return 0, api.ErrOver
		}
		return x << y, api.OK
	})
}

// Less: is a below b?
func Less(a, b api.Word) (bool, api.Errno) {
	if !Is(a) || !Is(b) {
		return false, api.ErrKind
	}
	return number(a) < number(b), api.OK
}

// Text: a number's digits.
func Text(n int64) string { return strconv.FormatInt(n, 10) }

// Parse: and back.
func Parse(s string) (int64, api.Errno) {
	if !digits(strings.TrimPrefix(s, "-")) {
		return 0, api.ErrForm
	}
	// With the form known to be right, all that strconv may tell is that it is too great.
	n, err := strconv.ParseInt(s, 10, 64)
	if err != nil {
		return 0, api.ErrOver
	}
	if _, e := Of(n); e != api.OK {
		return 0, e
	}
	return n, api.OK
}

// digits: one or more, and nothing else?
func digits(s string) bool {
	for i := range len(s) {
		if s[i] < '0' || s[i] > '9' {
			return false
		}
	}
	return s != ""
}
