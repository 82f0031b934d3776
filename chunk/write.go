package chunk

import (
	"strings"

	"foundling/api"
	"foundling/lex"
)

// none: what is written where no class is above.
const none = "nil"

// writer: a file, as far as it is written.
type writer struct {
	strings.Builder
}

// put: parts of the file, till it is too great whatever is behind.
func (w *writer) put(parts ...string) {
	for _, s := range parts {
		if w.Len() <= api.MaxSource {
			w.WriteString(s)
		}
	}
}

// file: classes, and methods below their headers.
func (w *writer) file(u Unit) {
	for _, c := range u.Classes {
		super := c.Super
		if super == "" {
			super = none
		}
		w.put(super, " subclass: #", c.Name, " fields: '", fieldsOf(c), "'!\n")
	}
	for i, s := range u.Sources {
		if i == 0 || !isAlike(u.Sources[i-1], s) {
			w.header(s)
		}
		w.put(strings.ReplaceAll(s.Text, mark, marks), "!\n")
		if i == len(u.Sources)-1 || !isAlike(s, u.Sources[i+1]) {
			w.put(" !\n")
		}
	}
}

// header: ahead of this method, and of those of the same class.
func (w *writer) header(s Source) {
	w.put(s.Class)
	if s.Meta {
		w.put(" class")
	}
	w.put(" methods!\n")
}

// isAlike: methods of the same class?
func isAlike(a, b Source) bool { return a.Class == b.Class && a.Meta == b.Meta }

// fieldsOf: as one text.
func fieldsOf(c Class) string { return strings.Join(c.Fields, " ") }

// isReadable: is the text of its fields one that lex would read?
func isReadable(c Class) bool { return len(fieldsOf(c)) <= api.MaxText }

// all: are all of a list such?
func all[T any](list []T, is func(T) bool) bool {
	for _, x := range list {
		if !is(x) {
			return false
		}
	}
	return true
}

func isName(s string) bool { return lex.Arity(s) == 0 }

// isClass: of names that may be read? That of none can't be told from none.
func isClass(c Class) bool {
	return isName(c.Name) && (c.Super == "" || isName(c.Super) && c.Super != none) && all(c.Fields, isName)
}

// isSource: of a class, and with a text that is what is read of it?
func isSource(s Source) bool {
	return isName(s.Class) && s.Text != "" && strings.Trim(s.Text, blanks) == s.Text
}
