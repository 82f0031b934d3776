package lex

import (
	"math/rand"
	"regexp"
	"strconv"
	"strings"

	"foundling/api"
)

// The forms of the chapter's table, each of a whole token.
var (
	formName     = regexp.MustCompile(`^[a-zA-Z][a-zA-Z0-9]*$`)
	formKeyword  = regexp.MustCompile(`^[a-zA-Z][a-zA-Z0-9]*:$`)
	formKeywords = regexp.MustCompile(`^([a-zA-Z][a-zA-Z0-9]*:)+$`)
	formInt      = regexp.MustCompile(`^[0-9]+$`)
	formText     = regexp.MustCompile(`^'([^']|'')*'$`)
	formOp       = regexp.MustCompile(`^([-+*/\\~<>=&,@%?][+*/\\~<>=&,@%?]?|[|])$`)
)

// modelMarks: what is written always alike.
var modelMarks = map[string]int{":=": Assign, "^": Return, ".": Dot, ";": Semi, "(": Open, ")": Close, "[": BlockOpen, "]": BlockClose, "#(": ArrayOpen, ":": Colon}

// modelText: what a Text, as it is written, has.
func modelText(s string) string { return strings.ReplaceAll(s[1:len(s)-1], "''", "'") }

// modelSymbol: what a Symbol has behind its #; false: it is none.
func modelSymbol(s, behind string) (string, bool) {
	switch {
	case formName.MatchString(s), formOp.MatchString(s):
		return s, true
	case formKeywords.MatchString(s):
		return s, !strings.HasPrefix(behind, "=")
	case formText.MatchString(s):
		return modelText(s), !strings.HasPrefix(behind, "'")
	}
	return "", false
}

// modelToken: is s one token, with this behind it?
func modelToken(s, behind string) (Token, bool) {
	if kind, ok := modelMarks[s]; ok {
		return Token{Kind: kind}, true
	}
	switch {
	case formName.MatchString(s):
		return Token{Kind: Name, Word: s}, true
	case formKeyword.MatchString(s):
		return Token{Kind: Keyword, Word: s}, !strings.HasPrefix(behind, "=")
	case formInt.MatchString(s):
		n, err := strconv.ParseInt(s, 10, 64)
		if err != nil || n > api.MaxInt {
			n = -1
		}
		return Token{Kind: Int, Num: n}, true
	case len(s) == 2 && s[0] == '$':
		return Token{Kind: Int, Num: int64(s[1])}, true
	case formText.MatchString(s):
		return Token{Kind: Text, Word: modelText(s)}, !strings.HasPrefix(behind, "'")
	case formOp.MatchString(s):
		return Token{Kind: Op, Word: s}, true
	case s[0] == '#':
		word, ok := modelSymbol(s[1:], behind)
		return Token{Kind: Symbol, Word: word}, ok
	}
	return Token{}, false
}

// modelSize: is what a token has too long, or too great?
func modelSize(t Token) api.Errno {
	switch {
	case (t.Kind == Name || t.Kind == Keyword || t.Kind == Symbol) && len(t.Word) > 64, len(t.Word) > 4096:
		return api.ErrSize
	case t.Num < 0:
		return api.ErrOver
	}
	return api.OK
}

// modelWrong: what is wrong where no token begins.
func modelWrong(s string) api.Errno {
	if s[0] == '\'' || strings.HasPrefix(s, "#'") || s == "$" {
		return api.ErrEnd
	}
	return api.ErrForm
}

// modelNext: the first token is the longest beginning of the text that is one.
func modelNext(s string, at int) (Token, int, api.Errno) {
	at = max(0, min(at, len(s)))
	for at < len(s) && strings.IndexByte(" \t\n\r\"", s[at]) >= 0 {
		if s[at] == '"' {
			size := strings.Index(s[at+1:], `"`)
			if size < 0 {
				return Token{}, at, api.ErrEnd
			}
			at += size + 1
		}
		at++
	}
	if at == len(s) {
		return Token{At: at}, at, api.OK
	}
	for to := len(s); to > at; to-- {
		if t, ok := modelToken(s[at:to], s[to:]); ok {
			if e := modelSize(t); e != api.OK {
				return Token{}, at, e
			}
			t.At = at
			return t, to, api.OK
		}
	}
	return Token{}, at, modelWrong(s[at:])
}

// modelSpellable: could Next answer such a token?
func modelSpellable(t Token) bool {
	number, word := t.Num == 0, t.Word == ""
	switch t.Kind {
	case End, Assign, Return, Dot, Semi, Open, Close, BlockOpen, BlockClose, ArrayOpen, Colon:
		return number && word
	case Name:
		return number && formName.MatchString(t.Word) && len(t.Word) <= 64
	case Keyword:
		return number && formKeyword.MatchString(t.Word) && len(t.Word) <= 64
	case Int:
		return word && t.Num >= 0 && t.Num <= api.MaxInt
	case Text:
		return number && len(t.Word) <= 4096
	case Symbol:
		return number && len(t.Word) <= 64
	case Op:
		return number && formOp.MatchString(t.Word)
	}
	return false
}

// modelArity: of a message's name.
func modelArity(s string) int {
	switch {
	case len(s) > 64:
		return -1
	case formName.MatchString(s):
		return 0
	case formOp.MatchString(s):
		return 1
	case formKeywords.MatchString(s):
		return strings.Count(s, ":")
	}
	return -1
}

// letters: texts by chance are made of them, one kind of text of each.
var letters = []string{
	"a:=#", "a1:=# \"'", "'a#", "|-+<:=#", "#(a:$'\"", "ab:=12#'|-+<^.;()[]$\" \n", "\x00\x7f\x80\xff\xc3\xa9'#$a", "#a:b:c=",
	"+-*/\\~<>=&,@%?|!", "0123456789",
}

// chance: a text of so many bytes at most.
func chance(r *rand.Rand, most int) string {
	from := letters[r.Intn(len(letters))]
	b := make([]byte, r.Intn(most+1))
	for i := range b {
		b[i] = from[r.Intn(len(from))]
		if r.Intn(40) == 0 {
			b[i] = byte(r.Intn(256))
		}
	}
	return string(b)
}
