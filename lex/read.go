package lex

import (
	"strings"

	"foundling/api"
	"foundling/small"
)

// marks: those of one byte each, as their kinds follow one another from Return on.
const marks = "^.;()[]"

// ops: what an Op of one byte, or of two, is made of.
const ops = `+-*/\~<>=&,@%?`

// fault: what reading gives up with.
type fault struct {
	e  api.Errno
	at int
}

// reader: a text, how far it is read, and where what is being read begins.
type reader struct {
	text      string
	at, begin int
}

// giveUp: by a panic that Next catches.
func (r *reader) giveUp(e api.Errno) { panic(fault{e, r.begin}) }

// look: a byte ahead; 0, which means nothing in any token's form, behind the end.
func (r *reader) look(ahead int) byte {
	if r.at+ahead >= len(r.text) {
		return 0
	}
	return r.text[r.at+ahead]
}

// run: bytes, as long as they are such.
func (r *reader) run(is func(c byte) bool) string {
	from := r.at
	for r.at < len(r.text) && is(r.text[r.at]) {
		r.at++
	}
	return r.text[from:r.at]
}

// limited: a word, if it isn't too long.
func (r *reader) limited(word string, most int) string {
	if len(word) > most {
		r.giveUp(api.ErrSize)
	}
	return word
}

// token: the next one.
func (r *reader) token() Token {
	r.skip()
	t := Token{At: r.at}
	switch c := r.look(0); {
	case r.at == len(r.text):
		t.Kind = End
	case isLetter(c):
		t.Kind = r.named()
		t.Word = r.limited(r.text[r.begin:r.at], api.MaxName)
	case isDigit(c):
		t.Kind, t.Num = Int, r.number()
	case c == '$':
		t.Kind, t.Num = Int, r.char()
	case c == '\'':
		t.Kind, t.Word = Text, r.limited(r.quoted(), api.MaxText)
	case c == '#':
		t.Kind, t.Word = r.hashed()
	default:
		t.Kind, t.Word = r.mark()
	}
	return t
}

// skip: goes over what may stand ahead of a token.
func (r *reader) skip() {
	for {
		r.run(isBlank)
		r.begin = r.at
		if r.look(0) != '"' {
			return
		}
		size := strings.IndexByte(r.text[r.at+1:], '"')
		if size < 0 {
			r.giveUp(api.ErrEnd)
		}
		r.at += size + 2
	}
}

// named: goes over a Name, or a Keyword, however long, and tells which.
func (r *reader) named() int {
	r.run(isNamePart)
	if r.look(0) != ':' || r.look(1) == '=' {
		return Name
	}
	r.at++
	return Keyword
}

// number: that of digits.
func (r *reader) number() int64 {
	n, e := small.Parse(r.run(isDigit))
	if e != api.OK {
		r.giveUp(e)
	}
	return n
}

// char: the byte behind a $.
func (r *reader) char() int64 {
	if r.at+1 == len(r.text) {
		r.giveUp(api.ErrEnd)
	}
	r.at += 2
	return int64(r.text[r.at-1])
}

// quoted: what a Text has. One that doesn't end is of no length, so that this is told first.
func (r *reader) quoted() string {
	from := r.at + 1
	for r.at = from; r.at < len(r.text); r.at++ {
		if r.look(0) != '\'' {
			continue
		}
		r.at++
		if r.look(0) != '\'' {
			return strings.ReplaceAll(r.text[from:r.at-1], "''", "'")
		}
	}
	r.giveUp(api.ErrEnd)
	return ""
}

// hashed: what a # is with.
func (r *reader) hashed() (int, string) {
	r.at++
	switch c := r.look(0); {
	case c == '(':
		r.at++
		return ArrayOpen, ""
	case c == '\'':
		return Symbol, r.limited(r.quoted(), api.MaxName)
	case isLetter(c):
		return Symbol, r.limited(r.joined(), api.MaxName)
	}
	op := r.op()
	if op == "" {
		r.giveUp(api.ErrForm)
	}
	return Symbol, op
}

// joined: a Name, or Keywords, one behind the other; a Name behind these stays for the next token.
func (r *reader) joined() string {
	from := r.at
	kind := r.named()
	for kind == Keyword && isLetter(r.look(0)) {
		end := r.at
		if kind = r.named(); kind == Name {
			r.at = end
		}
	}
	return r.text[from:r.at]
}

// op: the longest one that stands here, if one does.
func (r *reader) op() string {
	for size := 2; size > 0; size-- {
		rest := r.text[r.at:]
		if len(rest) >= size && isOp(rest[:size]) {
			r.at += size
			return rest[:size]
		}
	}
	return ""
}

// mark: an Op, or what is always written alike.
func (r *reader) mark() (int, string) {
	if op := r.op(); op != "" {
		return Op, op
	}
	c := r.look(0)
	r.at++
	if i := strings.IndexByte(marks, c); i >= 0 {
		return Return + i, ""
	}
	if c != ':' {
		r.giveUp(api.ErrForm)
	}
	if r.look(0) != '=' {
		return Colon, ""
	}
	r.at++
	return Assign, ""
}

func isBlank(c byte) bool { return c == ' ' || c == 9 || c == 10 || c == 13 }

func isDigit(c byte) bool { return c >= '0' && c <= '9' }

func isLetter(c byte) bool { return c >= 'a' && c <= 'z' || c >= 'A' && c <= 'Z' }

func isNamePart(c byte) bool { return isLetter(c) || isDigit(c) }

// isName: of any length?
func isName(s string) bool {
	for i := range len(s) {
		if !isNamePart(s[i]) {
			return false
		}
	}
	return s != "" && isLetter(s[0])
}

// isOp: of one byte, or of two?
func isOp(s string) bool {
	for i := range len(s) {
		if strings.IndexByte(ops, s[i]) < 0 {
			return s == "|"
		}
	}
	return len(s) == 1 || len(s) == 2 && s[1] != '-'
}
