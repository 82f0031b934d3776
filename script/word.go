package script

import (
	"bytes"
	"slices"
	"strings"

	"foundling/api"
	"foundling/small"
)

// most: the greatest number.
const most = 1 << 24

// digits: of a byte of the input.
const digits = "0123456789abcdef"

// names: the first words, by kind.
var names = [...]string{Cells: "cells", Input: "input", Ticks: "ticks", Collects: "collects", Run: "run", Reload: "reload", Image: "image", Spoil: "spoil"}

// counts: how many words follow the first one; of a kind that isn't there as many as there are.
func counts() map[int]int {
	return map[int]int{Cells: 1, Run: 1, Reload: 1, Image: 0, Spoil: 2}
}

// split: the words of a line. What isn't a blank, be it a tabulator, is a part of one.
func split(line string) []string {
	line, _, _ = strings.Cut(line, "#")
	return strings.FieldsFunc(line, func(r rune) bool { return r == ' ' })
}

// read: the command of a line's words, of which there is one at least.
func read(words []string) (Cmd, api.Errno) {
	c, rest := Cmd{Kind: kindOf(words[0])}, words[1:]
	if c.Kind < Cells {
		return Cmd{}, api.ErrForm
	}
	if n, isFixed := counts()[c.Kind]; isFixed && len(rest) != n {
		return Cmd{}, api.ErrForm
	}
	if c.Kind == Input {
		return c.withBytes(rest)
	}
	return c.withNumbers(rest)
}

// kindOf: that of a first word, or 0.
func kindOf(word string) int {
	for kind, name := range names {
		if name == word {
			return kind
		}
	}
	return 0
}

// withBytes: two digits for each.
func (c Cmd) withBytes(words []string) (Cmd, api.Errno) {
	for _, w := range words {
		if len(w)%2 != 0 {
			return Cmd{}, api.ErrForm
		}
		for i := 0; i < len(w); i += 2 {
			high, low := strings.IndexByte(digits, w[i]), strings.IndexByte(digits, w[i+1])
			if high < 0 || low < 0 {
				return Cmd{}, api.ErrForm
			}
			c.Bytes = append(c.Bytes, byte(high<<4|low))
		}
	}
	return c, api.OK
}

// withNumbers: what is no number at all is told ahead of what is too great.
func (c Cmd) withNumbers(words []string) (Cmd, api.Errno) {
	if slices.ContainsFunc(words, func(w string) bool { return !isNumber(w) }) {
		return Cmd{}, api.ErrForm
	}
	var list []int
	for i, w := range words {
		n, e := small.Parse(w)
		if e != api.OK || n > limit(c.Kind, i) {
			return Cmd{}, api.ErrOver
		}
		list = append(list, int(n))
	}
	switch c.Kind {
	case Ticks, Collects:
		c.List = list
	case Cells, Run, Reload:
		c.N = list[0]
	case Spoil:
		c.At, c.N = list[0], list[1]
	}
	return c, api.OK
}

// isNumber: digits, as they are written.
func isNumber(w string) bool {
	return strings.Trim(w, "0123456789") == "" && (w[0] != '0' || len(w) == 1)
}

// limit: the greatest number that may be the i-th word of a kind.
func limit(kind, i int) int64 {
	if kind == Spoil && i == 1 {
		return 255
	}
	return most
}

// isCommand: could a line be this one?
func isCommand(c Cmd) bool {
	if c.Kind < Cells || Spoil < c.Kind {
		return false
	}
	back, e := read(written(c))
	return e == api.OK && c.isSame(back)
}

func (c Cmd) isSame(d Cmd) bool {
	return c.Kind == d.Kind && c.N == d.N && c.At == d.At && slices.Equal(c.List, d.List) && bytes.Equal(c.Bytes, d.Bytes)
}

// written: the words of a command of a kind that there is.
func written(c Cmd) []string {
	words := []string{names[c.Kind]}
	switch c.Kind {
	case Cells, Run, Reload:
		words = append(words, small.Text(int64(c.N)))
	case Input:
		if len(c.Bytes) > 0 {
			words = append(words, hexadecimal(c.Bytes))
		}
	case Ticks, Collects:
		for _, n := range c.List {
			words = append(words, small.Text(int64(n)))
		}
	case Spoil:
		words = append(words, small.Text(int64(c.At)), small.Text(int64(c.N)))
	}
	return words
}

func hexadecimal(list []byte) string {
	var b strings.Builder
	for _, c := range list {
		b.Write([]byte{digits[c>>4], digits[c&15]})
	}
	return b.String()
}
