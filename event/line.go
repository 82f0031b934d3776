package event

import (
	"strings"

	"foundling/vm"
)

// end: of a line.
const end = 10

// What a line begins with.
const (
	out   = "out "
	fault = "fault "
	saved = "saved"
	other = "?"
)

// quote: stands ahead of bytes, and behind them.
const quote = `"`

// digits: of a byte that isn't quoted as it is.
const digits = "0123456789abcdef"

// line: of an event, without its end.
func line(x vm.Event) string {
	switch x.Kind {
	case vm.Out:
		return out + quoted(x.Bytes)
	case vm.Fault:
		return fault + quoted([]byte(x.Name))
	case vm.Saved:
		return saved
	}
	return other
}

// read: the event of a line, if it is one. What Text writes otherwise is none, so that nothing else need be asked.
func read(s string) (vm.Event, bool) {
	x := meant(s)
	return x, line(x) == s
}

// meant: the only event whose line this could be.
func meant(s string) vm.Event {
	if text, isOut := strings.CutPrefix(s, out); isOut {
		return vm.Event{Kind: vm.Out, Bytes: unquoted(text)}
	}
	if text, isFault := strings.CutPrefix(s, fault); isFault {
		return vm.Event{Kind: vm.Fault, Name: string(unquoted(text))}
	}
	return vm.Event{Kind: vm.Saved}
}

// quoted: bytes as text.
func quoted(list []byte) string {
	var b strings.Builder
	b.WriteString(quote)
	for _, c := range list {
		if isPlain(c) {
			b.WriteByte(c)
		} else {
			b.Write([]byte{'\\', digits[c>>4], digits[c&15]})
		}
	}
	b.WriteString(quote)
	return b.String()
}

// isPlain: does the byte stand for itself?
func isPlain(c byte) bool { return 32 <= c && c <= 126 && c != '"' && c != '\\' }

// unquoted: the only bytes that could be quoted so.
func unquoted(s string) []byte {
	var b []byte
	for s = strings.TrimSuffix(strings.TrimPrefix(s, quote), quote); s != ""; {
		c, width := first(s)
		b = append(b, c)
		s = s[width:]
	}
	return b
}

// first: the first byte, and how many bytes stand for it.
func first(s string) (byte, int) {
	if s[0] != '\\' || len(s) < 3 {
		return s[0], 1
	}
	return byte(strings.IndexByte(digits, s[1])<<4 | strings.IndexByte(digits, s[2])), 3
}
