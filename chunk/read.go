package chunk

import (
	"strings"

	"foundling/api"
	"foundling/lex"
)

// The mark that ends a chunk, as it is written within one, and the blanks that don't count at a chunk's ends.
const (
	mark   = "!"
	marks  = "!!"
	blanks = " \t\n\r"
)

// fault: what reading gives up with.
type fault struct {
	e  api.Errno
	at int
}

// reader: what is read of a file, the file, and how far it is read.
type reader struct {
	Unit
	text string
	at   int
}

// giveUp: by a panic that Read catches.
func (r *reader) giveUp(e api.Errno, at int) { panic(fault{e, at}) }

// file: the whole.
func (r *reader) file() {
	for text, at := range r.chunks {
		if text != "" {
			r.define(text, at)
		}
	}
}

// chunks: those that are not yet read, one behind the other, and where each begins.
func (r *reader) chunks(see func(text string, at int) bool) {
	for {
		rest := r.text[r.at:]
		at := len(r.text) - len(strings.TrimLeft(rest, blanks))
		end := endOf(rest)
		if end < 0 {
			if at < len(r.text) {
				r.giveUp(api.ErrEnd, at)
			}
			return
		}
		r.at += end + len(mark)
		text := strings.Trim(rest[:end], blanks)
		if !see(strings.ReplaceAll(text, marks, mark), at) {
			return
		}
	}
}

// endOf: where the ! stands that ends the first chunk; below 0: none does.
func endOf(s string) int {
	at := 0
	for {
		next := strings.Index(s[at:], mark)
		if next < 0 {
			return -1
		}
		at += next
		if !strings.HasPrefix(s[at:], marks) {
			return at
		}
		at += len(marks)
	}
}

// define: a class, or a header with the methods behind it.
func (r *reader) define(text string, at int) {
	tokens, _, e := lex.All(text)
	switch {
	case e != api.OK:
		r.giveUp(e, at)
	case fits(tokens, name(""), keyword("subclass:"), lex.Token{Kind: lex.Symbol}, keyword("fields:"), lex.Token{Kind: lex.Text}):
		r.class(Class{Name: tokens[2].Word, Super: tokens[0].Word, Fields: split(tokens[4].Word), At: at})
	case fits(tokens, name(""), name("methods")):
		r.methods(tokens[0].Word, false)
	case fits(tokens, name(""), name("class"), name("methods")):
		r.methods(tokens[0].Word, true)
	default:
		r.giveUp(api.ErrForm, at)
	}
}

func name(word string) lex.Token { return lex.Token{Kind: lex.Name, Word: word} }

func keyword(word string) lex.Token { return lex.Token{Kind: lex.Keyword, Word: word} }

// fits: are these the tokens, with the End behind them? One without a Word stands for all of its kind.
func fits(tokens []lex.Token, form ...lex.Token) bool {
	if len(tokens) != len(form)+1 {
		return false
	}
	for i, want := range form {
		if tokens[i].Kind != want.Kind || want.Word != "" && tokens[i].Word != want.Word {
			return false
		}
	}
	return true
}

// split: the names between blanks; none is no list.
func split(s string) []string {
	isBlank := func(c rune) bool { return strings.ContainsRune(blanks, c) }
	return append([]string(nil), strings.FieldsFunc(s, isBlank)...)
}

// class: if it is one.
func (r *reader) class(c Class) {
	if c.Super == none {
		c.Super = ""
	}
	if !isClass(c) {
		r.giveUp(api.ErrForm, c.At)
	}
	r.Classes = append(r.Classes, c)
}

// methods: of a class, or of its class, up to a blank chunk.
func (r *reader) methods(class string, meta bool) {
	for text, at := range r.chunks {
		if text == "" {
			return
		}
		r.Sources = append(r.Sources, Source{Class: class, Meta: meta, Text: text, At: at})
	}
	r.giveUp(api.ErrEnd, len(r.text))
}
