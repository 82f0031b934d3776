package event

import (
	"bytes"
	"fmt"
	"math/rand"
	"regexp"
	"strings"

	"foundling/api"
	"foundling/vm"
)

// wanted: the text, one byte after the other.
func wanted(list ...vm.Event) string {
	s := ""
	for _, x := range list {
		switch x.Kind {
		case 1:
			s += "out " + quoteOf(string(x.Bytes))
		case 2:
			s += "fault " + quoteOf(x.Name)
		case 3:
			s += "saved"
		default:
			s += "?"
		}
		s += "\n"
	}
	return s
}

func quoteOf(s string) string {
	var b strings.Builder
	for i := range len(s) {
		switch c := s[i]; {
		case c == 0x22 || c == 0x5c || c < 0x20 || 0x7e < c:
			fmt.Fprintf(&b, "\\%02x", c)
		default:
			b.WriteByte(c)
		}
	}
	return `"` + b.String() + `"`
}

// lineForm: a line as Text writes it, without its end.
var lineForm = regexp.MustCompile(`^(saved|(out|fault) "(([ !#-\[\]-~]|\\([01][0-9a-f]|22|5c|7f|[89a-f][0-9a-f]))*)")$`)

// parsed: what Parse is to answer.
func parsed(s string) ([]vm.Event, int, api.Errno) {
	lines := strings.Split(s, "\n")
	var list []vm.Event
	for i, l := range lines {
		isLast := i == len(lines)-1
		if isLast && l == "" {
			break
		}
		m := lineForm.FindStringSubmatch(l)
		switch {
		case m == nil:
			return nil, i, api.ErrForm
		case isLast:
			return nil, i, api.ErrEnd
		}
		x := vm.Event{Kind: vm.Saved}
		switch m[2] {
		case "out":
			x = vm.Event{Kind: vm.Out, Bytes: unquote(m[3])}
		case "fault":
			x = vm.Event{Kind: vm.Fault, Name: string(unquote(m[3]))}
		}
		list = append(list, x)
	}
	return list, 0, api.OK
}

func unquote(s string) []byte {
	var b []byte
	for i := 0; i < len(s); i++ {
		c := s[i]
		if c == '\\' {
			fmt.Sscanf(s[i+1:i+3], "%02x", &c)
			i += 2
		}
		b = append(b, c)
	}
	return b
}

// same: do they show alike, and are they of one kind?
func same(a, b vm.Event) bool {
	switch {
	case a.Kind != b.Kind:
		return false
	case a.Kind == vm.Out:
		return bytes.Equal(a.Bytes, b.Bytes)
	case a.Kind == vm.Fault:
		return a.Name == b.Name
	}
	return true
}

func allSame(a, b []vm.Event) bool {
	if len(a) != len(b) {
		return false
	}
	for i := range a {
		if !same(a[i], b[i]) {
			return false
		}
	}
	return true
}

// hidden: has an event anything that isn't shown?
func hidden(x vm.Event) bool {
	return x.Kind != vm.Out && len(x.Bytes) > 0 || x.Kind != vm.Fault && x.Name != ""
}

// someBytes: by chance; many of those that are quoted in a way of their own.
func someBytes(r *rand.Rand) []byte {
	b := make([]byte, r.Intn(6))
	for i := range b {
		b[i] = byte(r.Intn(256))
		if r.Intn(2) == 0 {
			b[i] = "\"\\\n a09f?\x00\x1f ~\x7f\x80\xff"[r.Intn(16)]
		}
	}
	if len(b) == 0 && r.Intn(2) == 0 {
		return nil
	}
	return b
}

// someEvent: by chance, of a kind that there is, with what isn't shown, too.
func someEvent(r *rand.Rand) vm.Event {
	return vm.Event{Kind: vm.Out + r.Intn(3), Bytes: someBytes(r), Name: string(someBytes(r))}
}

func someEvents(r *rand.Rand) []vm.Event {
	list := make([]vm.Event, r.Intn(6))
	for i := range list {
		list[i] = someEvent(r)
	}
	return list
}
