package lex

import (
	"math"
	"math/rand"
	"slices"
	"strings"
	"testing"

	"foundling/api"
)

const alphabet = "abcdefghijklmnopqrstuvwxyzABCDEFGHIJKLMNOPQRSTUVWXYZ"

// named: a name of so many bytes.
func named(size int) string { return "n" + strings.Repeat("1", size-1) }

// P9.1

func TestKinds(t *testing.T) {
	for i, kind := range []int{End, Name, Keyword, Int, Text, Symbol, Op, Assign, Return, Dot, Semi, Open, Close, BlockOpen, BlockClose, ArrayOpen, Colon} {
		if kind != i {
			t.Errorf("P9.1: the kind %d is %d", i, kind)
		}
	}
}

// checkAll: are a text's tokens these, the End behind them?
func checkAll(t *testing.T, s string, want ...Token) {
	t.Helper()
	want = append(want, Token{At: len(s)})
	got, at, e := All(s)
	if e != api.OK || at != 0 || !slices.Equal(got, want) {
		t.Errorf("P9.1: All(%q) = %v, %d, %d, want %v", s, got, at, e, want)
	}
}

func TestExample(t *testing.T) {
	checkAll(t, "x:=3 foo: #at:put: , 'it''s'", Token{Name, "x", 0, 0}, Token{Assign, "", 0, 1}, Token{Int, "", 3, 3}, Token{Keyword, "foo:", 0, 5},
		Token{Symbol, "at:put:", 0, 10}, Token{Op, ",", 0, 19}, Token{Text, "it's", 0, 21})
}

// Names, Keywords and what : is of.
func TestNames(t *testing.T) {
	checkAll(t, "")
	checkAll(t, alphabet+"0123456789", Token{Name, alphabet + "0123456789", 0, 0})
	checkAll(t, "z9 Z", Token{Name, "z9", 0, 0}, Token{Name, "Z", 0, 3})
	checkAll(t, "3x", Token{Int, "", 3, 0}, Token{Name, "x", 0, 1})
	checkAll(t, "a:", Token{Keyword, "a:", 0, 0})
	checkAll(t, "a :", Token{Name, "a", 0, 0}, Token{Colon, "", 0, 2})
	checkAll(t, "a:b:c", Token{Keyword, "a:", 0, 0}, Token{Keyword, "b:", 0, 2}, Token{Name, "c", 0, 4})
	checkAll(t, "a: =", Token{Keyword, "a:", 0, 0}, Token{Op, "=", 0, 3})
	checkAll(t, "a:==", Token{Name, "a", 0, 0}, Token{Assign, "", 0, 1}, Token{Op, "=", 0, 3})
	checkAll(t, "a::=", Token{Keyword, "a:", 0, 0}, Token{Assign, "", 0, 2})
	checkAll(t, "a::", Token{Keyword, "a:", 0, 0}, Token{Colon, "", 0, 2})
	checkAll(t, ":a:", Token{Colon, "", 0, 0}, Token{Keyword, "a:", 0, 1})
	checkAll(t, ":=:", Token{Assign, "", 0, 0}, Token{Colon, "", 0, 2})
	checkAll(t, ": =", Token{Colon, "", 0, 0}, Token{Op, "=", 0, 2})
}

func TestInts(t *testing.T) {
	checkAll(t, "0 007 4611686018427387903", Token{Int, "", 0, 0}, Token{Int, "", 7, 2}, Token{Int, "", api.MaxInt, 6})
	long := strings.Repeat("0", 5000) + "4611686018427387903"
	checkAll(t, long, Token{Int, "", api.MaxInt, 0})
	checkAll(t, "-3", Token{Op, "-", 0, 0}, Token{Int, "", 3, 1})
	checkAll(t, "$$$ $'$\"$\x00$\xff$3", Token{Int, "", '$', 0}, Token{Int, "", ' ', 2}, Token{Int, "", '\'', 4}, Token{Int, "", '"', 6}, Token{Int, "", 0, 8}, Token{Int, "", 255, 10}, Token{Int, "", '3', 12})
	for c := range 256 {
		checkAll(t, "$"+string([]byte{byte(c)})+"1", Token{Int, "", int64(c), 0}, Token{Int, "", 1, 2})
	}
}

func TestTexts(t *testing.T) {
	checkAll(t, "'' '''' 'a''''b'", Token{Text, "", 0, 0}, Token{Text, "'", 0, 3}, Token{Text, "a''b", 0, 8})
	checkAll(t, "'a' 'b''' '''c'", Token{Text, "a", 0, 0}, Token{Text, "b'", 0, 4}, Token{Text, "'c", 0, 10})
	checkAll(t, "'\"$#! \x00\xff\n'", Token{Text, "\"$#! \x00\xff\n", 0, 0})
}

func TestSymbols(t *testing.T) {
	checkAll(t, "#a1", Token{Symbol, "a1", 0, 0})
	checkAll(t, "#a:b", Token{Symbol, "a:", 0, 0}, Token{Name, "b", 0, 3})
	checkAll(t, "#a:b:c:d", Token{Symbol, "a:b:c:", 0, 0}, Token{Name, "d", 0, 7})
	checkAll(t, "#a: b:", Token{Symbol, "a:", 0, 0}, Token{Keyword, "b:", 0, 4})
	checkAll(t, "#a:=b", Token{Symbol, "a", 0, 0}, Token{Assign, "", 0, 2}, Token{Name, "b", 0, 4})
	checkAll(t, "#a:b:=c", Token{Symbol, "a:", 0, 0}, Token{Name, "b", 0, 3}, Token{Assign, "", 0, 4}, Token{Name, "c", 0, 6})
	checkAll(t, "#a::b:", Token{Symbol, "a:", 0, 0}, Token{Colon, "", 0, 3}, Token{Keyword, "b:", 0, 4})
	checkAll(t, "#a:3", Token{Symbol, "a:", 0, 0}, Token{Int, "", 3, 3})
	checkAll(t, "#<= #| #- #->", Token{Symbol, "<=", 0, 0}, Token{Symbol, "|", 0, 4}, Token{Symbol, "-", 0, 7}, Token{Symbol, "->", 0, 10})
	checkAll(t, "#+-#||", Token{Symbol, "+", 0, 0}, Token{Op, "-", 0, 2}, Token{Symbol, "|", 0, 3}, Token{Op, "|", 0, 5})
	checkAll(t, "#'' #'it''s' #'a'", Token{Symbol, "", 0, 0}, Token{Symbol, "it's", 0, 4}, Token{Symbol, "a", 0, 13})
	checkAll(t, "#(#( (", Token{ArrayOpen, "", 0, 0}, Token{ArrayOpen, "", 0, 2}, Token{Open, "", 0, 5})
}

// Each byte alone, behind a #, and each two bytes that Ops are made of.
func TestBytes(t *testing.T) {
	const ops = `+-*/\~<>=&,@%?`
	marks := map[byte]int{'^': Return, '.': Dot, ';': Semi, '(': Open, ')': Close, '[': BlockOpen, ']': BlockClose, ':': Colon}
	for i := range 256 {
		s, c := string([]byte{byte(i)}), byte(i)
		switch kind, isMark := marks[c]; {
		case isMark:
			checkAll(t, s, Token{Kind: kind})
		case strings.Contains(alphabet, s):
			checkAll(t, s, Token{Kind: Name, Word: s})
			checkAll(t, "#"+s, Token{Kind: Symbol, Word: s})
			continue
		case strings.Contains("0123456789", s):
			checkAll(t, s, Token{Kind: Int, Num: int64(c - '0')})
		case strings.Contains(ops+"|", s):
			checkAll(t, s, Token{Kind: Op, Word: s})
			checkAll(t, "#"+s, Token{Kind: Symbol, Word: s})
			continue
		case strings.Contains(" \t\n\r", s):
			checkAll(t, s)
		case c == '"' || c == '\'' || c == '$':
			checkWrong(t, s, 0, api.ErrEnd)
		default:
			checkWrong(t, s, 0, api.ErrForm)
		}
		if c == '(' {
			checkAll(t, "#(", Token{Kind: ArrayOpen})
		} else if c != '\'' {
			checkWrong(t, "#"+s, 0, api.ErrForm)
		}
	}
	for _, a := range ops + "|" {
		for _, b := range ops + "|" {
			s := string(a) + string(b)
			if a != '|' && b != '|' && b != '-' {
				checkAll(t, s+"3", Token{Op, s, 0, 0}, Token{Int, "", 3, 2})
				checkAll(t, s+"+", Token{Op, s, 0, 0}, Token{Op, "+", 0, 2})
				checkAll(t, "#"+s, Token{Symbol, s, 0, 0})
				continue
			}
			checkAll(t, s, Token{Op, string(a), 0, 0}, Token{Op, string(b), 0, 1})
			checkAll(t, "#"+s, Token{Symbol, string(a), 0, 0}, Token{Op, string(b), 0, 2})
		}
	}
}

// checkWrong: do Next, from all of what is ahead of it, and All tell this?
func checkWrong(t *testing.T, s string, at int, want api.Errno) {
	t.Helper()
	if got, place, e := All(s); got != nil || place != at || e != want {
		t.Errorf("P9.1: All(%.90q) = %v, %d, %d, want %d at %d", s, got, place, e, want, at)
	}
	if got, place, e := Next(s, at); got != (Token{}) || place != at || e != want {
		t.Errorf("P9.1: Next(%.90q, %d) = %v, %d, %d, want %d", s, at, got, place, e, want)
	}
}

func TestWrong(t *testing.T) {
	for _, c := range []struct {
		s  string
		at int
		e  api.Errno
	}{
		{"a _", 2, api.ErrForm}, {"a!b", 1, api.ErrForm}, {"#", 0, api.ErrForm}, {"## a", 0, api.ErrForm}, {"# a", 0, api.ErrForm}, {"#\"\"a", 0, api.ErrForm},
		{"#3", 0, api.ErrForm}, {"#$a", 0, api.ErrForm}, {"#:=", 0, api.ErrForm}, {"#:a", 0, api.ErrForm}, {"#[", 0, api.ErrForm}, {"#)", 0, api.ErrForm}, {"#^", 0, api.ErrForm}, {"#a#", 2, api.ErrForm},
		{"\xc3\xa9", 0, api.ErrForm}, {"a\xff", 1, api.ErrForm}, {"\x00", 0, api.ErrForm}, {"a\x0b", 1, api.ErrForm}, {"a \x0c", 2, api.ErrForm}, {"{", 0, api.ErrForm}, {"a_b", 1, api.ErrForm}, {"`", 0, api.ErrForm},
		{"'", 0, api.ErrEnd}, {"a 'b", 2, api.ErrEnd}, {"'a''", 0, api.ErrEnd}, {"'''", 0, api.ErrEnd}, {"a'' '", 4, api.ErrEnd}, {"'a\"", 0, api.ErrEnd},
		{" #'", 1, api.ErrEnd}, {"#'a''", 0, api.ErrEnd}, {"#'a", 0, api.ErrEnd}, {"$", 0, api.ErrEnd}, {"$a $", 3, api.ErrEnd}, {"$$$", 2, api.ErrEnd},
		{"\"", 0, api.ErrEnd}, {"a \"b", 2, api.ErrEnd}, {"\"\" \"'", 3, api.ErrEnd}, {"a\"\"\"", 3, api.ErrEnd}, {"\"a' ! \x00\xff", 0, api.ErrEnd},
		{"4611686018427387904", 0, api.ErrOver}, {"1 04611686018427387904 !", 2, api.ErrOver}, {"9223372036854775808", 0, api.ErrOver}, {"18446744073709551617", 0, api.ErrOver}, {"a1 " + strings.Repeat("9", 9999), 3, api.ErrOver}, {"-4611686018427387904", 1, api.ErrOver},
		{"! 'a", 0, api.ErrForm}, {"1 99999999999999999999 'a", 2, api.ErrOver}, {"'!' $", 4, api.ErrEnd},
	} {
		checkWrong(t, c.s, c.at, c.e)
	}
}

// The limits, as they are reached, and one byte above.
func TestLimits(t *testing.T) {
	checkAll(t, named(64), Token{Name, named(64), 0, 0})
	checkAll(t, named(64)+":=", Token{Name, named(64), 0, 0}, Token{Assign, "", 0, 64})
	checkAll(t, named(63)+":", Token{Keyword, named(63) + ":", 0, 0})
	checkAll(t, "#"+named(64), Token{Symbol, named(64), 0, 0})
	checkAll(t, "#"+named(63)+":", Token{Symbol, named(63) + ":", 0, 0})
	checkAll(t, "#a:"+named(61)+":", Token{Symbol, "a:" + named(61) + ":", 0, 0})
	checkAll(t, "#a:"+named(64), Token{Symbol, "a:", 0, 0}, Token{Name, named(64), 0, 3})
	quotes := strings.Repeat("''", 64)
	checkAll(t, "#'"+quotes+"'", Token{Symbol, quotes[:64], 0, 0})
	checkAll(t, "'"+strings.Repeat("x", 4096)+"'", Token{Text, strings.Repeat("x", 4096), 0, 0})
	checkAll(t, "'"+strings.Repeat("''", 4096)+"'", Token{Text, strings.Repeat("'", 4096), 0, 0})
	for s, at := range map[string]int{
		" " + named(65): 1, "a " + named(64) + ":": 2, "a " + named(65) + ":": 2, named(65) + ":=": 0, " #" + named(65): 1, "a#" + named(64) + ":": 1, "#" + named(65) + ":=": 0,
		"#a:" + named(62) + ":": 0, "#a:" + named(65): 3, "#a:" + named(65) + ":=": 3, "#a:b:" + named(65) + "!": 5, " #'" + strings.Repeat("x", 65) + "'": 1, "#'" + quotes + "x'": 0, "#'" + strings.Repeat("x", 4097) + "'": 0,
		"a '" + strings.Repeat("x", 4097) + "'": 2, "'" + strings.Repeat("''", 4097) + "' !": 0, "'" + strings.Repeat("x", 70000) + "'": 0, strings.Repeat("x", 70000): 0,
		"#" + strings.Repeat("a:", 33): 0, named(65) + " !": 0,
	} {
		checkWrong(t, s, at, api.ErrSize)
	}
	checkAll(t, "#"+strings.Repeat("a:", 32), Token{Symbol, strings.Repeat("a:", 32), 0, 0})
	checkWrong(t, "'"+strings.Repeat("x", 5000), 0, api.ErrEnd)
	checkWrong(t, "#'"+strings.Repeat("x", 100), 0, api.ErrEnd)
}

// Places that are none, and those within tokens.
func TestPlaces(t *testing.T) {
	for _, c := range []struct {
		s      string
		at     int
		want   Token
		behind int
	}{
		{"ab c", -1, Token{Name, "ab", 0, 0}, 2}, {"ab c", math.MinInt, Token{Name, "ab", 0, 0}, 2}, {"ab c", 0, Token{Name, "ab", 0, 0}, 2}, {"ab c", 1, Token{Name, "b", 0, 1}, 2},
		{"ab c", 2, Token{Name, "c", 0, 3}, 4}, {"ab c", 3, Token{Name, "c", 0, 3}, 4}, {"ab c", 4, Token{At: 4}, 4}, {"ab c", 5, Token{At: 4}, 4}, {"ab c", math.MaxInt, Token{At: 4}, 4},
		{"", -1, Token{}, 0}, {"", 0, Token{}, 0}, {"", 1, Token{}, 0}, {"", math.MaxInt, Token{}, 0}, {"", math.MinInt, Token{}, 0}, {"a \"b\" \n", 1, Token{At: 7}, 7}, {"'a'b'", 2, Token{Text, "b", 0, 2}, 5},
		{"\"a\" x \"b\"", 0, Token{Name, "x", 0, 4}, 5}, {"$$a", 1, Token{Int, "", 'a', 1}, 3}, {"'it''s'", 4, Token{Text, "s", 0, 4}, 7},
	} {
		got, behind, e := Next(c.s, c.at)
		if got != c.want || behind != c.behind || e != api.OK {
			t.Errorf("P9.1: Next(%q, %d) = %v, %d, %d", c.s, c.at, got, behind, e)
		}
	}
	for _, at := range []int{-1, math.MinInt, 0} {
		if got, place, e := Next(" !", at); got != (Token{}) || place != 1 || e != api.ErrForm {
			t.Errorf("P9.1: Next(\" !\", %d) = %v, %d, %d", at, got, place, e)
		}
	}
}

// Any text, from any place, as the model has it; All is one Next behind the other.
func TestModel(t *testing.T) {
	r := rand.New(rand.NewSource(9))
	for range 20000 {
		s := chance(r, 24)
		if r.Intn(50) == 0 {
			s = chance(r, 5) + named(60+r.Intn(8)) + chance(r, 5)
		}
		for at := -1; at <= len(s)+1; at++ {
			got, behind, e := Next(s, at)
			want, wantBehind, wantE := modelNext(s, at)
			if got != want || behind != wantBehind || e != wantE {
				t.Fatalf("P9.1: Next(%q, %d) = %v, %d, %d, want %v, %d, %d", s, at, got, behind, e, want, wantBehind, wantE)
			}
		}
		checkModelAll(t, s)
	}
}

func checkModelAll(t *testing.T, s string) {
	t.Helper()
	var want []Token
	for at := 0; ; {
		x, behind, e := modelNext(s, at)
		if e != api.OK {
			checkWrong(t, s, behind, e)
			return
		}
		if x.Kind == End {
			checkAll(t, s, want...)
			return
		}
		want, at = append(want, x), behind
	}
}

// P9.2

func TestSpell(t *testing.T) {
	for _, c := range []struct {
		x    Token
		want string
	}{
		{Token{Kind: End}, ""}, {Token{Kind: Name, Word: "a1"}, "a1"}, {Token{Kind: Keyword, Word: "a:"}, "a:"}, {Token{Kind: Int}, "0"}, {Token{Kind: Int, Num: api.MaxInt}, "4611686018427387903"},
		{Token{Kind: Text}, "''"}, {Token{Kind: Text, Word: "it's"}, "'it''s'"}, {Token{Kind: Text, Word: "'"}, "''''"}, {Token{Kind: Text, Word: "a\x00\xff\n"}, "'a\x00\xff\n'"},
		{Token{Kind: Symbol}, "#''"}, {Token{Kind: Symbol, Word: "a1"}, "#a1"}, {Token{Kind: Symbol, Word: "a:b:"}, "#a:b:"}, {Token{Kind: Symbol, Word: "<="}, "#<="}, {Token{Kind: Symbol, Word: "|"}, "#|"},
		{Token{Kind: Symbol, Word: "a:b"}, "#'a:b'"}, {Token{Kind: Symbol, Word: "||"}, "#'||'"}, {Token{Kind: Symbol, Word: "+-"}, "#'+-'"}, {Token{Kind: Symbol, Word: "->"}, "#->"}, {Token{Kind: Symbol, Word: "1a"}, "#'1a'"}, {Token{Kind: Symbol, Word: "it's"}, "#'it''s'"}, {Token{Kind: Symbol, Word: "("}, "#'('"}, {Token{Kind: Symbol, Word: ":"}, "#':'"},
		{Token{Kind: Op, Word: "-"}, "-"}, {Token{Kind: Op, Word: "|"}, "|"}, {Token{Kind: Op, Word: "\\\\"}, "\\\\"},
		{Token{Kind: Assign}, ":="}, {Token{Kind: Return}, "^"}, {Token{Kind: Dot}, "."}, {Token{Kind: Semi}, ";"}, {Token{Kind: Open}, "("}, {Token{Kind: Close}, ")"},
		{Token{Kind: BlockOpen}, "["}, {Token{Kind: BlockClose}, "]"}, {Token{Kind: ArrayOpen}, "#("}, {Token{Kind: Colon}, ":"},
	} {
		for _, at := range []int{0, 7, -1, math.MinInt, math.MaxInt} {
			c.x.At = at
			if got, e := Spell(c.x); got != c.want || e != api.OK {
				t.Errorf("P9.2: Spell(%v) = %q, %d, want %q", c.x, got, e, c.want)
			}
		}
	}
}

// Each Kind with words and numbers that it may have, and that it may not.
func TestSpellAny(t *testing.T) {
	words := []string{
		"", "a", "a1", "a:", "a:b", "a:b:", "1a", "1", "-1", "+", "-", "+-", "-+", "|", "||", "|+", "+|", ":=", "^", ".", ";", "(", ")", "[", "]", "#(", ":", "#", "#a", "'", "''", "'a'", "$", "$a", " ", " a", "a ", "a b", "\"\"", "\"\"a", "a\"\"", "a\n", "\xff", "a=", "a:=", "_",
		named(64), named(65), named(63) + ":", named(64) + ":", "a:" + named(61) + ":", "a:" + named(62) + ":", strings.Repeat("'", 64), strings.Repeat("'", 65), strings.Repeat("x", 4096), strings.Repeat("x", 4097), strings.Repeat("'", 4096), strings.Repeat("'", 4097), "<=>",
	}
	numbers := []int64{0, 1, -1, api.MaxInt, api.MaxInt + 1, api.MinInt, math.MaxInt64, math.MinInt64}
	for _, kind := range []int{End, Name, Keyword, Int, Text, Symbol, Op, Assign, Return, Dot, Semi, Open, Close, BlockOpen, BlockClose, ArrayOpen, Colon, -1, Colon + 1, math.MaxInt, math.MinInt} {
		for _, word := range words {
			for _, n := range numbers {
				checkSpell(t, Token{Kind: kind, Word: word, Num: n, At: int(n)})
			}
		}
	}
}

// checkSpell: is a token told, or written so that it is read back, with a blank behind it?
func checkSpell(t *testing.T, x Token) {
	t.Helper()
	s, e := Spell(x)
	if !modelSpellable(x) {
		if s != "" || e != api.ErrArg {
			t.Errorf("P9.2: Spell(%d, %.90q, %d) = %.90q, %d, want ErrArg", x.Kind, x.Word, x.Num, s, e)
		}
		return
	}
	back, behind, eBack := Next(s+" ", 0)
	x.At = 0
	if e != api.OK || eBack != api.OK || back != x && x.Kind != End || x.Kind != End && behind != len(s) {
		t.Errorf("P9.2: Spell(%d, %.90q, %d) = %.90q, %d, which is read as %d, %.90q", x.Kind, x.Word, x.Num, s, e, back.Kind, back.Word)
	}
}

// spelled: tokens as text, with this between them.
func spelled(t *testing.T, list []Token, between func() string) string {
	t.Helper()
	s := between()
	for _, x := range list {
		one, e := Spell(x)
		if e != api.OK {
			t.Fatalf("P9.2: Spell(%v): %d, of a token that Next answered", x, e)
		}
		s += one + between()
	}
	return s
}

// sameTokens: but for At?
func sameTokens(a, b []Token) bool {
	return slices.EqualFunc(a, b, func(x, y Token) bool {
		x.At, y.At = 0, 0
		return x == y
	})
}

// Whole texts, of tokens that were read, and blanks and notes between them (P9.2, P9.4).
func TestSpellAll(t *testing.T) {
	r := rand.New(rand.NewSource(99))
	gaps := []string{" ", "\t", "\n", "\r", "\"\"", "\"it's ! # \x00\xff\"", " \"a\" \"b\"\n", "\"a\"\"b\""}
	for range 20000 {
		s := chance(r, 30)
		list, _, e := All(s)
		if e != api.OK {
			continue
		}
		plain := spelled(t, list, func() string { return " " })
		if back, _, e := All(plain); e != api.OK || !sameTokens(back, list) {
			t.Fatalf("P9.2: %q is spelled %q, and read back as %v", s, plain, back)
		}
		strewn := spelled(t, list, func() string { return gaps[r.Intn(len(gaps))] })
		if back, _, e := All(strewn); e != api.OK || !sameTokens(back, list) {
			t.Fatalf("P9.4: %q is spelled %q, and read back as %v", s, strewn, back)
		}
	}
}

// P9.3

func TestArity(t *testing.T) {
	for s, want := range map[string]int{
		"": -1, "a": 0, "Z9": 0, "9Z": -1, "a b": -1, " a": -1, "a ": -1, "a_": -1, "true": 0, "nil": 0, "self": 0, "\xff": -1, "a\xff": -1,
		"+": 1, "-": 1, "|": 1, "||": -1, "+-": -1, "-+": 1, "--": -1, "<=": 1, "<=>": -1, "|+": -1, "+|": -1, "!": -1, "+ ": -1, "^": -1, ":=": -1, ".": -1, "#": -1, "#a": -1, "'a'": -1, "(": -1, "?%": 1, "~~": 1, "\\\\": 1,
		"a:": 1, "a:b:": 2, "a:b": -1, ":": -1, "::": -1, "a::": -1, ":a:": -1, "a:1:": -1, "a: ": -1, "a: b:": -1, "a:+": -1, "a:=": -1, "+:": -1, "a:b:c:d:e:f:g:h:i:j:k:l:m:": 13,
		named(64): 0, named(65): -1, named(63) + ":": 1, named(64) + ":": -1, named(65) + ":": -1, named(61) + ":b:": 2, named(62) + ":b:": -1, "a:" + named(61) + ":": 2, "a:" + named(62) + ":": -1, named(65) + ":b:": -1, "a:" + named(65) + ":": -1,
		strings.Repeat("a:", 32): 32, strings.Repeat("a:", 33): -1, strings.Repeat("at:", 21): 21, strings.Repeat("at:", 22): -1, strings.Repeat("at:", 9999): -1, named(9999): -1,
	} {
		if got := Arity(s); got != want {
			t.Errorf("P9.3: Arity(%.90q) = %d, want %d", s, got, want)
		}
	}
}

// A message's name is just what # and it are a Symbol of, without quotes.
func TestArityModel(t *testing.T) {
	r := rand.New(rand.NewSource(999))
	check := func(s string) {
		t.Helper()
		got, want := Arity(s), modelArity(s)
		x, behind, e := Next("#"+s, 0)
		isRead := e == api.OK && x == Token{Kind: Symbol, Word: s} && behind == len(s)+1
		if got != want || got >= 0 != isRead {
			t.Fatalf("P9.3: Arity(%q) = %d, want %d; as a Symbol it is %v, %d", s, got, want, x, e)
		}
	}
	for range 200000 {
		check(chance(r, 6))
	}
	// Names of which the last bytes are about where it is too long.
	counts := map[bool]int{}
	for range 20000 {
		var s string
		for size := 58 + r.Intn(10); len(s) < size; {
			s += named(1+r.Intn(min(size-len(s), 40))) + []string{":", ":", ""}[r.Intn(3)]
		}
		check(s)
		counts[Arity(s) < 0]++
	}
	if counts[true] < 1000 || counts[false] < 1000 {
		t.Errorf("P9.3: names about the limit: %v", counts)
	}
}

// P9.4

func TestNotes(t *testing.T) {
	want := []Token{{Kind: Name, Word: "a"}, {Kind: Op, Word: "-"}, {Kind: Int, Num: 3}, {Kind: End}}
	for _, s := range []string{"a-3", "a - 3", " a\t-\n3\r", "\"x\"a\"y\"-\"z\"3\"\"", "\"\"\"\"a-\"'\" 3", "a \"$\"-3 \"#\"", "\"a\nb\"a-3\n\n"} {
		if got, _, e := All(s); e != api.OK || !sameTokens(got, want) {
			t.Errorf("P9.4: All(%q) = %v, %d", s, got, e)
		}
	}
	if got, _, _ := All("#a: b: ' c ' $ x"); len(got) != 6 || got[1].Word != "b:" || got[2].Word != " c " || got[3].Num != ' ' {
		t.Errorf("P9.4: blanks within tokens: %v", got)
	}
}

// Great texts: each call ends.
func TestGreat(t *testing.T) {
	for _, piece := range []string{"a", "a ", "a:", "#a:", "#a:b ", "'", "\"", "\"\"", "''", "'' ", "$", "(", "#", "+", "-", "|", "0", " ", ":", "!"} {
		s := strings.Repeat(piece, 1<<20/len(piece))
		list, at, e := All(s)
		if e == api.OK != (len(list) > 0) || at < 0 || at > len(s) {
			t.Errorf("P9.1: All of many %q: %d tokens, %d, %d", piece, len(list), at, e)
		}
		Arity(s)
	}
}
