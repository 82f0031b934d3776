package parse

import (
	"math/rand"
	"reflect"
	"slices"
	"strings"
	"testing"
	"unsafe"

	"foundling/api"
	"foundling/tree"
)

// checkMethod: is this what a text is, but for At?
func checkMethod(t *testing.T, s string, want tree.Method) {
	t.Helper()
	if got, at, e := Method(s); !tree.Same(got, want) || at != 0 || e != api.OK {
		t.Errorf("P11.1: Method(%.200q) = %v, %d, %d, want %v", s, got, at, e, want)
	}
}

// checkPlaced: and with At?
func checkPlaced(t *testing.T, s string, want tree.Method) {
	t.Helper()
	if got, at, e := Method(s); !reflect.DeepEqual(got, want) || at != 0 || e != api.OK {
		t.Errorf("P11.1: Method(%.200q) = %v, %d, %d, want %v", s, got, at, e, want)
	}
}

// checkWrong: is this told?
func checkWrong(t *testing.T, s string, at int, e api.Errno) {
	t.Helper()
	if got, place, told := Method(s); !reflect.DeepEqual(got, tree.Method{}) || place != at || told != e {
		t.Errorf("P11.1: Method(%.200q) = %v, %d, %d, want %d at %d", s, got, place, told, e, at)
	}
}

// P11.1

func TestExamples(t *testing.T) {
	x, y := variable("x"), variable("y")
	checkMethod(t, "foo: x ^x + 1", tree.Method{Name: "foo:", Params: []string{"x"}, Body: []tree.Node{answer(send("+", x, num(1)))}})
	checkMethod(t, "foo x + y foo; bar", body(cascade(send("+", x, send("foo", y)), further("bar"))))
	checkWrong(t, "foo ^", 5, api.ErrForm)
}

func TestPatterns(t *testing.T) {
	for s, want := range map[string]tree.Method{
		"foo": {Name: "foo"}, " \"n\" foo\n": {Name: "foo"}, "self": {Name: "self"}, "+ x": {Name: "+", Params: []string{"x"}}, "-x": {Name: "-", Params: []string{"x"}}, "| x": {Name: "|", Params: []string{"x"}}, "|x|y|": {Name: "|", Params: []string{"x"}, Temps: []string{"y"}},
		"a: x": {Name: "a:", Params: []string{"x"}}, "a:x b: y\tc:z": {Name: "a:b:c:", Params: []string{"x", "y", "z"}}, "a: nil": {Name: "a:", Params: []string{"nil"}}, "primitive: x <primitive: 3>": {Name: "primitive:", Params: []string{"x"}, Prim: 3},
		"foo <primitive: 1>": {Name: "foo", Prim: 1}, "foo<primitive:999>": {Name: "foo", Prim: 999}, "< x < primitive: 007 >": {Name: "<", Params: []string{"x"}, Prim: 7}, "foo <primitive: $a>": {Name: "foo", Prim: 97},
		"foo | |": {Name: "foo"}, "foo||": {Name: "foo"}, "foo | a b |": {Name: "foo", Temps: []string{"a", "b"}}, "foo <primitive: 1>|a|": {Name: "foo", Prim: 1, Temps: []string{"a"}}, "foo | true |": {Name: "foo", Temps: []string{"true"}},
		"a: x <primitive: 12> | b | ^b": {Name: "a:", Params: []string{"x"}, Prim: 12, Temps: []string{"b"}, Body: []tree.Node{answer(variable("b"))}}, "foo bar": body(variable("bar")), "foo < primitive: 1> | |x": {Name: "foo", Prim: 1, Body: []tree.Node{variable("x")}},
	} {
		checkMethod(t, s, want)
	}
	for s, at := range map[string]int{
		"": 0, "  ": 2, "\"n\"": 3, "3": 0, "'a'": 0, "#a": 0, "(": 0, "[": 0, "^": 0, ".": 0, ":=": 0, ":": 0, "#(": 0, " ]": 1,
		"+": 1, "+ ": 2, "+ 3": 2, "-3": 1, "+ a:": 2, "+ -": 2, "a:": 2, "a: ": 3, "a: 3": 3, "a: x b:": 7, "a: b: x": 3, "a: x: ": 3, "a: +": 3, "+ x y:": 4, "foo a:": 4, "foo + x": 4, "foo := 3": 4,
		"foo <primitive: 0>": 16, "foo <primitive: 1000>": 16, "foo <primitive: 4611686018427387903>": 16, "foo <primitive: -1>": 16, "foo <primitive: '1'>": 16, "foo <primitive: #a>": 16, "foo <primitive: x>": 16, "foo <primitive: $\x00>": 16,
		"foo <": 5, "foo <primitive:": 15, "foo <primitive: ": 16, "foo <primitive: 1": 17, "foo <primitive>": 5, "foo <primitives: 1>": 5, "foo <'primitive:' 1>": 5, "foo <#primitive: 1>": 5, "foo <3": 5, "foo < x": 6, "foo <primitive: 1 2>": 18, "foo <primitive: 1>>": 17, "foo <primitive: 1>=": 17, "foo <primitive: 1> <primitive: 2>": 19, "foo << primitive: 1>": 4,
		"foo |": 5, "foo | a": 7, "foo | a b": 9, "foo | 3 |": 6, "foo | a: |": 6, "foo | a + b |": 8, "foo | a . |": 8, "foo |a| |b|": 8, "foo | a | <primitive: 1>": 10, "foo |||": 6,
	} {
		checkWrong(t, s, at, api.ErrForm)
	}
}

// What a statement is read as, behind "foo ".
func TestValues(t *testing.T) {
	x, y := variable("x"), variable("y")
	for s, n := range map[string]tree.Node{
		"x": x, "self": variable("self"), "true": variable("true"), "3": num(3), "-3": num(-3), "-0": num(0), "$a": num(97), "-$a": num(-97), "-4611686018427387903": num(-api.MaxInt), "4611686018427387903": num(api.MaxInt), "'it''s'": text("it's"), "#a:b:": symbol("a:b:"), "#'a b'": symbol("a b"), "#|": symbol("|"),
		"x := 3": assign("x", num(3)), "x:=y:=-3": assign("x", assign("y", num(-3))), "x \"n\" := y": assign("x", y), "self := x": assign("self", x), "x := y foo; bar": assign("x", cascade(send("foo", y), further("bar"))), "x := y a: 3": assign("x", send("a:", y, num(3))),
		"^x": answer(x), "^ x := 3": answer(assign("x", num(3))), "^-3": answer(num(-3)), "^x.": answer(x), "(x)": x, "((x))": x, "(x := 3)": assign("x", num(3)), "(x foo)": send("foo", x), "(x foo; bar)": cascade(send("foo", x), further("bar")),
		"x foo": send("foo", x), "x foo true nil": send("nil", send("true", send("foo", x))), "3 foo": send("foo", num(3)), "-3 foo": send("foo", num(-3)), "'a' foo": send("foo", text("a")), "#a foo": send("foo", symbol("a")), "#() foo": send("foo", list()), "[] foo": send("foo", block("", 0)), "(x) foo": send("foo", x),
		"x + y": send("+", x, y), "x + y - 3": send("-", send("+", x, y), num(3)), "x + (y - 3)": send("+", x, send("-", y, num(3))), "x foo + y bar": send("+", send("foo", x), send("bar", y)), "x | y": send("|", x, y), "x < y > x": send(">", send("<", x, y), x), "(x := 3) + 1": send("+", assign("x", num(3)), num(1)),
		"3 - 4": send("-", num(3), num(4)), "3-4": send("-", num(3), num(4)), "3 -4": send("-", num(3), num(4)), "3- 4": send("-", num(3), num(4)), "3--4": send("-", num(3), num(-4)), "3 - -4": send("-", num(3), num(-4)), "3 -4 -5": send("-", send("-", num(3), num(4)), num(5)), "-3-4": send("-", num(-3), num(4)), "3+-4": send("+", num(3), num(-4)), "3->4": send("->", num(3), num(4)), "x -y": send("-", x, y), "x a: -3": send("a:", x, num(-3)), "x a: 3 -4": send("a:", x, send("-", num(3), num(4))), "x foo -3": send("-", send("foo", x), num(3)), "(-3)": num(-3), "(x) -3": send("-", x, num(3)), "[] -3": send("-", block("", 0), num(3)), "[-3]": block("", 0, num(-3)), "[:a|-3]": block("a", 1, num(-3)), "x := -3": assign("x", num(-3)),
		"x a: y": send("a:", x, y), "x a: y b: 3": send("a:b:", x, y, num(3)), "x a: y foo b: y + 3": send("a:b:", x, send("foo", y), send("+", y, num(3))), "x + 1 a: y": send("a:", send("+", x, num(1)), y), "x a: (y a: 3)": send("a:", x, send("a:", y, num(3))), "(x a: 3) a: y": send("a:", send("a:", x, num(3)), y), "x primitive: y": send("primitive:", x, y),
		"x foo; bar": cascade(send("foo", x), further("bar")), "x foo bar; baz": cascade(send("bar", send("foo", x)), further("baz")), "x foo; bar; baz": cascade(send("foo", x), further("bar"), further("baz")), "x + y; - 3": cascade(send("+", x, y), further("-", num(3))), "x + y; -3; -x": cascade(send("+", x, y), further("-", num(3)), further("-", x)), "x + 1 + 2; foo": cascade(send("+", send("+", x, num(1)), num(2)), further("foo")),
		"x a: y foo; bar": cascade(send("a:", x, send("foo", y)), further("bar")), "x a: 1 + y; b: 3 + 4 foo c: x": cascade(send("a:", x, send("+", num(1), y)), further("b:c:", send("+", num(3), send("foo", num(4))), x)), "x foo; + y bar; a: 1": cascade(send("foo", x), further("+", send("bar", y)), further("a:", num(1))), "(x foo) bar; baz": cascade(send("bar", send("foo", x)), further("baz")), "(x foo; bar) foo; baz": cascade(send("foo", cascade(send("foo", x), further("bar"))), further("baz")), "x foo; + (y foo; bar)": cascade(send("foo", x), further("+", cascade(send("foo", y), further("bar")))), "3 foo; bar": cascade(send("foo", num(3)), further("bar")), "x + (y foo); bar": cascade(send("+", x, send("foo", y)), further("bar")), "x foo; true": cascade(send("foo", x), further("true")), "x foo; | y": cascade(send("foo", x), further("|", y)),
	} {
		checkMethod(t, "foo "+s, body(n))
		if n.Kind != tree.Return {
			checkMethod(t, "foo ^["+s+"]", body(answer(block("", 0, n))))
		}
	}
}

func TestBlocks(t *testing.T) {
	x, y := variable("x"), variable("y")
	for s, n := range map[string]tree.Node{
		"[]": block("", 0), "[x]": block("", 0, x), "[x.]": block("", 0, x), "[x. y]": block("", 0, x, y), "[^x]": block("", 0, answer(x)), "[^x.]": block("", 0, answer(x)), "[x.^y]": block("", 0, x, answer(y)),
		"[:a]": block("a", 1), "[:a |]": block("a", 1), "[:a | ]": block("a", 1), "[: a : b]": block("a b", 2), "[:a :b|]": block("a b", 2), "[:a | x]": block("a", 1, x), "[:a|x.y.]": block("a", 1, x, y), "[:a | ^x]": block("a", 1, answer(x)), "[:a | x | y]": block("a", 1, send("|", x, y)), "[x | y]": block("", 0, send("|", x, y)),
		"[| |]": block("", 0), "[||]": block("", 0), "[| b |]": block("b", 0), "[| b c | x]": block("b c", 0, x), "[|b|x|y]": block("b", 0, send("|", x, y)),
		"[:a | | |]": block("a", 1), "[:a|||]": block("a", 1), "[:a | | b |]": block("a b", 1), "[:a||b|x]": block("a b", 1, x), "[:a :b | | c d | ^x]": block("a b c d", 2, answer(x)), "[:self | | nil | true]": block("self nil", 1, variable("true")),
		"[[]]": block("", 0, block("", 0)), "[:a | [:b | [x]]]": block("a", 1, block("b", 1, block("", 0, x))), "[x := 3]": block("", 0, assign("x", num(3))),
	} {
		checkMethod(t, "foo "+s, body(n))
	}
	for s, at := range map[string]int{
		"[": 5, "[x": 6, "[x.": 7, "[:": 6, "[:]": 6, "[:3]": 6, "[:a": 7, "[:a x]": 8, "[:a 3]": 8, "[:a + x]": 8, "[:a ^x]": 8, "[:a. x]": 7, "[:a :=": 8, "[:a:b]": 6, "[:a |": 9, "[:a | :b | x]": 10, "[:a || ]": 11, "[:a | |]": 11, "[:a || b]": 12, "[:a | | b": 13, "[:a | | 3 |]": 12, "[:a b | x]": 8, "[:a > x]": 8,
		"[|]": 6, "[| ]": 7, "[| x": 8, "[| 3 |]": 7, "[| :a | x]": 7, "[| a | | b | x]": 11, "[:a | | b | | c | x]": 16, "[| a | :b | x]": 11, "[)": 5, "[x)": 6, "[x y: ]": 10, "[.]": 5, "[x..]": 7, "[^]": 6, "[^x. y]": 9, "[x y]]": 9, "]": 4, "x]": 5, "[x] y: ]": 11,
	} {
		checkWrong(t, "foo "+s, at, api.ErrForm)
	}
}

func TestArrays(t *testing.T) {
	for s, n := range map[string]tree.Node{
		"#()": list(), "#( )": list(), "#(1 -2 $a -$a)": list(num(1), num(-2), num(97), num(-97)), "#('a' 'it''s')": list(text("a"), text("it's")), "#(#a #a:b: #+ #'x y' #|)": list(symbol("a"), symbol("a:b:"), symbol("+"), symbol("x y"), symbol("|")),
		"#(a self super b1)": list(symbol("a"), symbol("self"), symbol("super"), symbol("b1")), "#(true false nil)": list(variable("true"), variable("false"), variable("nil")), "#(#true #'false' #nil)": list(symbol("true"), symbol("false"), symbol("nil")), "#(trues true: nil)": list(symbol("trues"), symbol("true:"), variable("nil")),
		"#(a: a:b: a: b: a:b:c: d)": list(symbol("a:"), symbol("a:b:"), symbol("a:"), symbol("b:"), symbol("a:b:c:"), symbol("d")), "#(a:b)": list(symbol("a:"), symbol("b")), "#(a:b:c)": list(symbol("a:b:"), symbol("c")), "#(a:\"n\"b:)": list(symbol("a:"), symbol("b:")), "#(a:true)": list(symbol("a:"), variable("true")), "#(#a:b: c:)": list(symbol("a:b:"), symbol("c:")), "#(primitive: a:)": list(symbol("primitive:"), symbol("a:")),
		"#(+ - | <= -> < >)": list(symbol("+"), symbol("-"), symbol("|"), symbol("<="), symbol("->"), symbol("<"), symbol(">")), "#(- 3 -3 3 - 3 3-3 +-3 --3)": list(symbol("-"), num(3), num(-3), num(3), symbol("-"), num(3), num(3), num(-3), symbol("+"), num(-3), symbol("-"), num(-3)), "#(-a -'b' -)": list(symbol("-"), symbol("a"), symbol("-"), text("b"), symbol("-")), "#(||)": list(symbol("|"), symbol("|")),
		"#((1) #(2) (3 #(4 (5))))": list(list(num(1)), list(num(2)), list(num(3), list(num(4), list(num(5))))), "#(() #())": list(list(), list()), "#(((nil)))": list(list(list(variable("nil")))), "#(a (b: c) d:)": list(symbol("a"), list(symbol("b:"), symbol("c")), symbol("d:")), "#(a:(b:))": list(symbol("a:"), list(symbol("b:"))),
	} {
		checkMethod(t, "foo "+s, body(n))
		checkMethod(t, "foo x a: "+s, body(send("a:", variable("x"), n)))
		checkMethod(t, "foo #("+s[1:]+")", body(list(n)))
	}
	for s, at := range map[string]int{
		"#(": 6, "#(1": 7, "#(1 ": 8, "#((1)": 9, "#(]": 6, "#([": 6, "#(:": 6, "#(:=": 6, "#(a:=": 7, "#(.)": 6, "#(1. 2)": 7, "#(^": 6, "#(;)": 6, "#(1 (2 #(3 ;)))": 15, "#())": 7, "#( ) )": 9, "#(-": 7, "#(- ]": 8,
	} {
		checkWrong(t, "foo "+s, at, api.ErrForm)
	}
}

// What may not stand where it does, behind "foo ".
func TestWrongTokens(t *testing.T) {
	for s, at := range map[string]int{
		"-": 4, "- 3": 4, "-x": 4, "--3": 4, "-\"\"3": 4, "-'a'": 4, "-(3)": 4, "- ": 4, "x + - 3": 8, "x + -y": 8, "x a: - 3": 9, "^- 3": 5, "^-x": 5, "(- 3": 5, "x := - 3": 9, "[- 3]": 5, "[:a | - 3]": 10, "x. - 3": 7, "3 - - 4": 8, "3 --": 7, "-!": 4, "-'": 4, "-$": 4, "-\"": 4, "x + -#": 8, "- 99999999999999999999": 4, "-\n99999999999999999999": 4, "-99999999999999999999": 4, "^-4611686018427387904": 5, "x. -4611686018427387904": 7, "3 - -4611686018427387904": 8, "3 --4611686018427387904": 7, "(-4611686018427387904)": 5, "x := -4611686018427387904": 9, "x a: -99999999999999999999": 9, "x foo; + -99999999999999999999": 13, "[:a | -99999999999999999999": 10,
		";": 4, "x; foo": 5, "3; foo": 5, "[x]; foo": 7, "(x foo); bar": 11, "(x + y); bar": 11, "(x foo; bar); baz": 16, "((x foo)); bar": 13, "x := y; foo": 10, "x := (y foo); bar": 16, "(x a: 3); bar": 12, "#(1); foo": 8, "^x; foo": 6, "x foo; (y)": 11, "x foo;": 10, "x foo; ; bar": 11, "x foo; 3": 11, "x foo;.": 10, "x foo; ^": 11, "x foo; +": 12, "x foo; a:": 13, "x foo; bar baz": 15, "x foo; + y + z": 15, "x foo; + y a: z": 15, "x foo; bar + y": 15, "x foo; bar a: y": 15, "x foo; bar 3": 15, "x foo; a: y; ; z": 17,
		".": 4, "x..": 6, "x. .": 7, "x . . y": 8, ". x": 4, "x. 3 4": 9, "^": 5, "^.": 5, "^^x": 5, "^x. y": 8, "^x. ^y": 8, "^x..": 7, "^x y: ": 10, "^x ^y": 7, "x ^y": 6, "x. ^y. z": 11, "^x. .": 8, "(^x)": 5, "x := ^y": 9, "x a: ^y": 9, "x + ^y": 8,
		"x := ": 9, "x :=": 8, "x := := y": 9, "x := .": 9, "(x) := 3": 8, "3 := x": 6, "x foo := 3": 10, "x + y := 3": 10, "x a: y := 3": 11, "#a := 3": 7, "x := y := ": 14, "x foo: (y := ": 17, "x := 3 := 4": 11,
		"(": 5, "()": 5, "(x": 6, "(x]": 6, "(x y: ": 10, "(x. y)": 6, "(x))": 7, ")": 4, "x)": 5, "(x foo": 10, "(x := )": 10, "(.": 5, "(;": 5, "(:": 5,
		"x + ": 8, "x +": 7, "x + + y": 8, "x + a: y": 8, "x a: ": 9, "x a:": 8, "x a: b: y": 9, "x a: + y": 9, "x a: y b: ": 14, "+ x": 4, "a: x": 4, "x 3": 6, "x 'a'": 6, "x #a": 6, "x (y)": 6, "x [y]": 6, "x #(1)": 6, "3 3": 6, "x : y": 6, ":": 4, ":x": 4, "x :": 6, "x y:=3": 7, "x a:b:=3": 9, "x | ": 8, "x + y foo 3": 14, "< x": 6, "x <primitive: 3> y": 7, "x foo <": 11,
	} {
		checkWrong(t, "foo "+s, at, api.ErrForm)
	}
}

// What lex tells, where it is met ahead of what may not stand there, and not where it is met behind.
func TestLexErrors(t *testing.T) {
	name, long := strings.Repeat("n", 65), "'"+strings.Repeat("x", 4097)+"'"
	for _, c := range []struct {
		s  string
		at int
		e  api.Errno
	}{
		{"!", 0, api.ErrForm}, {"'", 0, api.ErrEnd}, {"\"", 0, api.ErrEnd}, {" $", 1, api.ErrEnd}, {"99999999999999999999", 0, api.ErrOver}, {name, 0, api.ErrSize}, {"foo: " + name, 5, api.ErrSize}, {"foo !", 4, api.ErrForm}, {"foo 'a", 4, api.ErrEnd}, {"foo x \"n", 6, api.ErrEnd}, {"foo ^x. $", 8, api.ErrEnd},
		{"foo 4611686018427387904", 4, api.ErrOver}, {"foo 3 - 4611686018427387904", 8, api.ErrOver}, {"foo x foo; -4611686018427387904", 12, api.ErrOver}, {"foo #(-4611686018427387903 -4611686018427387904)", 28, api.ErrOver}, {"foo 3 -4611686018427387904", 7, api.ErrOver}, {"foo #(-4611686018427387904)", 7, api.ErrOver}, {"foo #(- 4611686018427387904)", 8, api.ErrOver}, {"foo #(-!", 7, api.ErrForm}, {"foo #(-'a", 7, api.ErrEnd}, {"foo 3 -'a", 7, api.ErrEnd},
		{"foo " + long, 4, api.ErrSize}, {"foo #(" + long + ")", 6, api.ErrSize}, {"foo x " + name + ": 3", 6, api.ErrSize}, {"foo #" + name, 4, api.ErrSize}, {"foo <primitive: 99999999999999999999>", 16, api.ErrOver}, {"foo | a !", 8, api.ErrForm}, {"foo [:a !", 8, api.ErrForm}, {"foo x !", 6, api.ErrForm}, {"foo x := !", 9, api.ErrForm}, {"foo x foo; !", 11, api.ErrForm}, {"foo x\x00", 5, api.ErrForm}, {"foo \xff", 4, api.ErrForm}, {"foo x_y", 5, api.ErrForm}, {"foo {", 4, api.ErrForm}, {"foo #", 4, api.ErrForm}, {"foo (x '", 7, api.ErrEnd},
		{"3 '", 0, api.ErrForm}, {"foo x; '", 5, api.ErrForm}, {"foo <primitive: 0 '", 16, api.ErrForm}, {"foo ^x. y '", 8, api.ErrForm}, {"foo [:a x '", 8, api.ErrForm}, {"foo ) $", 4, api.ErrForm}, {"foo - '", 4, api.ErrForm}, {"foo x 3 !", 6, api.ErrForm}, {"foo x. . '", 7, api.ErrForm}, {"foo ' ) '!", 9, api.ErrForm},
	} {
		checkWrong(t, c.s, c.at, c.e)
	}
	checkMethod(t, "foo "+strings.Repeat("n", 64), body(variable(strings.Repeat("n", 64))))
	checkMethod(t, "foo '"+strings.Repeat("x", 4096)+"'", body(text(strings.Repeat("x", 4096))))
}

// What tree.Check tells, at the place of the first token, and only where nothing else is wrong.
func TestCheckErrors(t *testing.T) {
	n := strings.Repeat("n", 30) + ": "
	bare := strings.ReplaceAll(n, " ", "")
	for _, c := range []struct {
		s  string
		at int
		e  api.Errno
	}{
		{n + "a bb: b " + n + "c", 0, api.ErrForm}, {"\"n\" " + n + "a " + n + "b " + n + "c", 4, api.ErrForm}, {"  foo x " + n + "1 bb: 2 " + n + "3", 2, api.ErrForm}, {" foo x bar; " + n + "1 bb: 2 " + n + "3", 1, api.ErrForm}, {"foo [x a: (x " + n + "1 " + n + "2 " + n + "3)]", 0, api.ErrForm},
		{" foo #(a " + bare + "aa:" + bare + ")", 1, api.ErrSize}, {"foo #((" + strings.Repeat("a:", 33) + "))", 0, api.ErrSize}, {"foo #(" + strings.Repeat("a:", 9999) + ")", 0, api.ErrSize},
		{" foo x" + strings.Repeat(" foo", 40), 1, api.ErrDeep}, {"foo ^x" + strings.Repeat(" foo", 39), 0, api.ErrDeep}, {"foo x" + strings.Repeat(" + x", 40), 0, api.ErrDeep}, {"foo x" + strings.Repeat(" foo", 39) + "; bar", 0, api.ErrDeep}, {"foo ((x" + strings.Repeat(" foo", 30) + ")" + strings.Repeat(" foo", 5) + ")" + strings.Repeat(" foo", 5), 0, api.ErrDeep},
		{"foo x" + strings.Repeat(" foo", 40) + ". #(" + strings.Repeat("a:", 33) + ")", 0, api.ErrSize}, {"foo #(" + strings.Repeat("a:", 33) + "). x" + strings.Repeat(" foo", 40), 0, api.ErrSize}, {"foo #(" + strings.Repeat("a:", 33) + "). x" + strings.Repeat(" a: 1"+strings.Repeat(" a: 1", 32), 1) + " foo", 0, api.ErrForm}, {"foo x" + strings.Repeat(" foo", 40) + strings.Repeat(" a: 1", 33), 0, api.ErrForm}, {"foo x " + strings.Repeat(" a: 1", 33) + strings.Repeat(" + 1", 40), 0, api.ErrForm},
		{"foo x" + strings.Repeat(" foo", 40) + " )", 5 + 160 + 1, api.ErrForm}, {"foo x" + strings.Repeat(" foo", 40) + " 4611686018427387904", 5 + 160 + 1, api.ErrOver}, {"foo #(" + strings.Repeat("a:", 33) + ") )", 6 + 66 + 2, api.ErrForm},
	} {
		checkWrong(t, c.s, c.at, c.e)
	}
	checkMethod(t, n+"a "+n+"b", tree.Method{Name: bare + bare, Params: []string{"a", "b"}})
	checkMethod(t, "foo #("+bare+"a:"+bare+")", body(list(symbol(bare+"a:"+bare))))
	deep := variable("x")
	for range 39 {
		deep = send("foo", deep)
	}
	checkMethod(t, "foo x"+strings.Repeat(" foo", 39), body(deep))
}

// nest: one text in another one, so many times.
func nest(count int, ahead, within, behind string) string {
	return strings.Repeat(ahead, count) + within + strings.Repeat(behind, count)
}

// What is as deep as may be, and one deeper: a statement's expression is the first.
func TestDeep(t *testing.T) {
	for _, c := range []struct {
		ahead, within, behind string
		most                  int // of what stands ahead
	}{
		{"(", "x", ")", 39}, {"(", "-3", ")", 39}, {"(", "[]", ")", 39}, {"(", "'a' foo", ")", 39}, {"[", "", "]", 40}, {"[", "x", "]", 39}, {"[^", "#a", "]", 19}, {"[:a | ", "3", "]", 39}, {"x := ", "x", "", 39}, {"x:=", "3 foo", "", 38}, {"(x := ", "x", ")", 19}, {"x + (", "y", ")", 39}, {"x a: (", "y", ")", 39}, {"x foo; a: (", "y", ")", 19},
	} {
		good, bad := "foo "+nest(c.most, c.ahead, c.within, c.behind), "foo "+nest(c.most+1, c.ahead, c.within, c.behind)
		if _, at, e := Method(good); e != api.OK {
			t.Errorf("P11.1: Method(%q): %d at %d", good, e, at)
		}
		_, at, e := Method(bad)
		if e != api.ErrDeep {
			t.Errorf("P11.1: Method(%q): %d at %d, not deep", bad, e, at)
		}
	}
	// Where it is told.
	for _, c := range []struct {
		s  string
		at int
	}{
		{"foo " + nest(40, "(", "x", ")"), 44}, {"foo " + nest(60, "( ", "x", ")"), 84}, {"foo " + nest(40, "(", "-3", ")"), 44}, {"foo " + nest(40, "(", "#()", ")"), 44}, {"foo " + nest(41, "[", "", "]"), 44}, {"foo " + nest(40, "[", "x", "]"), 44}, {"foo " + nest(40, "[", "^x", "]"), 45}, {"foo " + nest(40, "[:a|", "x", "]"), 164}, {"foo " + nest(40, "x:=", "y", ""), 124}, {"foo " + nest(41, "x:=", "y", ""), 124}, {"foo ^" + nest(40, "(", "x", ")"), 45}, {"foo " + nest(40, "x+(", "x foo", ")"), 124}, {"foo " + nest(20, "(x:=", "[x]", ")"), 84},
		{"foo " + nest(39, "(", "#(", ")"), 43}, {"foo " + nest(39, "(", "x a: #(", ")"), 48}, {"foo #" + nest(40, "(", "", ")"), 44}, {"foo #" + nest(41, "(", "", ")"), 44}, {"foo " + nest(40, "#(", "", ")"), 82}, {"foo x a: #" + nest(40, "(", "", ")"), 49}, {"foo [x := #" + nest(38, "(", "", ")"), 48}, {"foo " + nest(39, "(", "x. !", ")"), 44},
	} {
		e := api.ErrDeep
		if strings.Contains(c.s, "!") {
			e = api.ErrForm
		}
		checkWrong(t, c.s, c.at, e)
	}
	arrays := list()
	for range 38 {
		arrays = list(arrays)
	}
	checkMethod(t, "foo #"+nest(39, "(", "", ")"), body(arrays))
	checkMethod(t, "foo "+nest(38, "(", "#(1)", ")"), body(list(num(1))))
	// Behind 40 that have begun, what begins none isn't too deep: it may not stand there, or lex tells.
	for within, e := range map[string]api.Errno{"": api.ErrForm, ")": api.ErrForm, "]": api.ErrForm, "- 3": api.ErrForm, "-": api.ErrForm, "-99999999999999999999": api.ErrForm, ".": api.ErrForm, "^x": api.ErrForm, "+": api.ErrForm, "a:": api.ErrForm, "'": api.ErrEnd, "!": api.ErrForm, "99999999999999999999": api.ErrOver, "x": api.ErrDeep, "'a'": api.ErrDeep} {
		checkWrong(t, "foo "+nest(40, "(", within, ""), 44, e)
	}
	// What has ended doesn't count.
	checkMethod(t, "foo "+strings.Repeat(nest(39, "(", "x", ")")+". ", 3), body(variable("x"), variable("x"), variable("x")))
	checkMethod(t, "foo "+nest(39, "(", "x", ")")+" + "+nest(39, "(", "x", ")"), body(send("+", variable("x"), variable("x"))))
}

// The place of each Kind of Node, and of a method.
func TestPlaces(t *testing.T) {
	checkPlaced(t, "foo", tree.Method{Name: "foo"})
	checkPlaced(t, " \"n\" + x", tree.Method{Name: "+", Params: []string{"x"}, At: 5})
	checkPlaced(t, "\na: x b: y | t | ^t", tree.Method{Name: "a:b:", Params: []string{"x", "y"}, Temps: []string{"t"}, At: 1, Body: []tree.Node{at(17, answer(at(18, variable("t"))))}})
	for s, n := range map[string]tree.Node{
		" x": at(5, variable("x")), "3": at(4, num(3)), " -3": at(5, num(-3)), "'a'": at(4, text("a")), "#a": at(4, symbol("a")), "(x)": at(5, variable("x")), "( -3 )": at(6, num(-3)),
		"x := 3": at(4, assign("x", at(9, num(3)))), "(x:=3)": at(5, assign("x", at(8, num(3)))), "^ x": at(4, answer(at(6, variable("x")))),
		"x foo": at(6, send("foo", at(4, variable("x")))), "x foo bar": at(10, send("bar", at(6, send("foo", at(4, variable("x")))))), "(x foo) bar": at(12, send("bar", at(7, send("foo", at(5, variable("x")))))),
		"x + y": at(6, send("+", at(4, variable("x")), at(8, variable("y")))), "3-4": at(5, send("-", at(4, num(3)), at(6, num(4)))), "3--4": at(5, send("-", at(4, num(3)), at(6, num(-4)))), "x a: 1 b: 2": at(6, send("a:b:", at(4, variable("x")), at(9, num(1)), at(14, num(2)))),
		"x foo; bar":              at(6, cascade(at(6, send("foo", at(4, variable("x")))), at(11, send("bar", at(9, tree.Node{Kind: tree.Hole}))))),
		"x foo + 3 ; a: 1 b: 2":   at(10, cascade(at(10, send("+", at(6, send("foo", at(4, variable("x")))), at(12, num(3)))), at(16, send("a:b:", at(14, tree.Node{Kind: tree.Hole}), at(19, num(1)), at(24, num(2)))))),
		"x a: 1;+ 2;foo":          at(6, cascade(at(6, send("a:", at(4, variable("x")), at(9, num(1)))), at(11, send("+", at(10, tree.Node{Kind: tree.Hole}), at(13, num(2)))), at(15, send("foo", at(14, tree.Node{Kind: tree.Hole}))))),
		"[:a | | b | x. ^y]":      at(4, block("a b", 1, at(16, variable("x")), at(19, answer(at(20, variable("y")))))),
		"([ ])":                   at(5, block("", 0)),
		"#(a b:c: (1 #(-2)) + )":  at(4, list(at(6, symbol("a")), at(8, symbol("b:c:")), at(13, list(at(14, num(1)), at(16, list(at(18, num(-2)))))), at(23, symbol("+")))),
		"#(nil 'a' #b:c: -\"\"3)": at(4, list(at(6, variable("nil")), at(10, text("a")), at(14, symbol("b:c:")), at(20, symbol("-")), at(23, num(3)))),
	} {
		checkPlaced(t, "foo "+s, body(n))
	}
}

// Trees by chance, in texts that are not always alike: they are read as they are, each Node with its place.
func TestWritten(t *testing.T) {
	r := rand.New(rand.NewSource(11))
	for range 5000 {
		m := someMethod(r)
		s := written(r, &m)
		if tree.Check(m) != api.OK {
			continue
		}
		checkPlaced(t, s, m)
		if t.Failed() {
			return
		}
	}
}

// soup: a text of pieces by chance.
func soup(r *rand.Rand) string {
	s := pick(r, "foo ", "+ x ", "a: b ", "foo <primitive: 5> ", "foo | a | ", "", " ")
	pieces := []string{"x", "foo", "3", "-", "-3", "|", "+", "<", ">", "a:", "b:", "#a", "'t'", "(", ")", "[", "]", "#(", ")", "^", ".", ";", ":", ":=", "nil", "primitive:", "[:a | ", "x := ", "x foo; ", "(x) ", "\"\"", "$a", "|a|", "||", "!", "'", "99999999999999999999", "1000"}
	most := len(pieces)
	if r.Intn(3) > 0 {
		most -= 5
	}
	for range r.Intn(12) {
		s += pieces[r.Intn(most)] + pick(r, "", " ", " ")
	}
	return s
}

// spoilt: a text of a method, of which something is changed.
func spoilt(r *rand.Rand) string {
	m := someMethod(r)
	m.Body = m.Body[:min(len(m.Body), 2)]
	s := written(r, &m)
	if len(s) > 120 {
		return "foo"
	}
	i, j := r.Intn(len(s)), r.Intn(len(s))
	switch r.Intn(4) {
	case 0:
		return s[:i]
	case 1:
		return s[:i] + s[i+1:]
	case 2:
		return s[:i] + string([]byte{byte(r.Intn(256))}) + s[i:]
	}
	return s[:i] + pick(r, "-", ";", "|", ".", ")", "(", "^", " ", "x", ":", s[j:min(len(s), j+4)]) + s[i+r.Intn(2):]
}

// checkModel: what is wrong first, as the chapter's grammar has it.
func checkModel(t *testing.T, s string) api.Errno {
	t.Helper()
	at, e := modelWrong(s)
	_, place, told := Method(s)
	if place != at || told != e {
		t.Fatalf("P11.1: Method(%q): %d at %d, want %d at %d", s, told, place, e, at)
	}
	return e
}

func TestModel(t *testing.T) {
	r := rand.New(rand.NewSource(111))
	told := map[api.Errno]int{}
	for range 6000 {
		told[checkModel(t, soup(r))]++
		told[checkModel(t, spoilt(r))]++
	}
	for _, e := range []api.Errno{api.OK, api.ErrForm, api.ErrEnd, api.ErrOver} {
		if told[e] < 50 {
			t.Errorf("P11.1: chance has told %d only %d times", e, told[e])
		}
	}
}

// A text that is cut at each byte, and of which each byte is each other one.
func TestBytes(t *testing.T) {
	s := "at: i put: x <primitive: 61> | a b | a := #(1 -2 (foo: nil) 'b'). [:c | | d | c foo; + 3; k: a -1]. \"n\" ^(self a: $x) y"
	for i := range len(s) + 1 {
		checkModel(t, s[:i])
	}
	for i := 0; i < len(s); i += 3 {
		for c := range 256 {
			b := []byte(s)
			b[i] = byte(c)
			if c < 128 || i < 12 {
				checkModel(t, string(b))
			}
			Method(string(b[i:]))
		}
	}
	for c := range 256 {
		checkModel(t, string([]byte{byte(c)}))
		checkModel(t, "foo "+string([]byte{byte(c)}))
		checkModel(t, "foo -"+string([]byte{byte(c)}))
	}
}

// P11.2

// checkBack: is what Print answers read as the same?
func checkBack(t *testing.T, m tree.Method) {
	t.Helper()
	s, e := tree.Print(m)
	if e != api.OK {
		t.Fatalf("P11.2: Print(%v): %d", m, e)
	}
	if back, at, e := Method(s); e != api.OK || !tree.Same(back, m) {
		t.Errorf("P11.2: %q of %v is read as %v, %d at %d", s, m, back, e, at)
	}
}

func TestPrinted(t *testing.T) {
	r := rand.New(rand.NewSource(112))
	for range 20000 {
		if m := someMethod(r); tree.Check(m) == api.OK {
			checkBack(t, m)
		}
	}
}

// As deep as tree.Check lets it be: each Kind around each other one. A List that is 40 deep is one deeper than layer 11 reads, by its words on Deep: this isn't asked.
func TestPrintedDeep(t *testing.T) {
	arounds := []func(n tree.Node) tree.Node{
		func(n tree.Node) tree.Node { return assign("a", n) }, func(n tree.Node) tree.Node { return send("foo", n) }, func(n tree.Node) tree.Node { return send("+", num(1), n) }, func(n tree.Node) tree.Node { return send("a:", n, num(1)) }, func(n tree.Node) tree.Node { return send("a:", num(1), n) },
		func(n tree.Node) tree.Node { return block("", 0, n) }, func(n tree.Node) tree.Node { return block("a b", 1, num(2), n, answer(num(1))) },
	}
	r := rand.New(rand.NewSource(1120))
	for i := range 3000 {
		n := pick(r, num(-1), text("t"), symbol("s"), variable("v"), block("", 0), list(num(1)))
		if i%3 == 0 {
			for n = list(num(1)); tree.Depth(body(n)) < 40 && r.Intn(30) > 0; {
				n = list(num(2), n, symbol("-"))
			}
		}
		first, second := pick(r, arounds...), pick(r, arounds...)
		for tree.Depth(body(n)) < 40 {
			n = pick(r, first, second)(n)
		}
		checkBack(t, body(n))
		checkBack(t, body(num(1), n))
	}
}

// P11.3

// checkRead: what is read of a text, if it is a method's.
func checkRead(t *testing.T, s string) bool {
	t.Helper()
	m, _, e := Method(s)
	if e != api.OK {
		return false
	}
	if e := tree.Check(m); e != api.OK {
		t.Fatalf("P11.3: Check of %q: %d", s, e)
	}
	printed, _ := tree.Print(m)
	back, at, e := Method(printed)
	again, _ := tree.Print(back)
	if e != api.OK || !tree.Same(back, m) || again != printed {
		t.Fatalf("P11.3: %q is printed %q, read as %v, %d at %d, printed %q", s, printed, back, e, at, again)
	}
	return true
}

func TestRead(t *testing.T) {
	r := rand.New(rand.NewSource(113))
	count := 0
	for range 15000 {
		if checkRead(t, soup(r)) {
			count++
		}
		if checkRead(t, spoilt(r)) {
			count++
		}
	}
	if count < 1500 {
		t.Errorf("P11.3: only %d texts were methods", count)
	}
	for _, s := range []string{"(", "[", "x := ", "x a: (", "#(", "[:a | ", "[^", "x foo; + ("} {
		behind := strings.NewReplacer("(", ")", "[", "]").Replace(strings.Trim(s, "#xafo;+:=|^ "))
		for count := range 45 {
			for _, within := range []string{"", "x", "-3", "x foo", "#()", "[]"} {
				checkRead(t, "foo "+nest(count, s, within, behind))
			}
		}
	}
}

// P11.4

// span: where a list stands in memory, with its spare room.
type span struct{ from, to uintptr }

func spanOf[T any](list []T) span {
	from := uintptr(unsafe.Pointer(unsafe.SliceData(list)))
	return span{from, from + uintptr(cap(list))*unsafe.Sizeof(*new(T))}
}

// spans: of all lists of a method that have any room.
func spans(m tree.Method) []span {
	out := []span{spanOf(m.Params), spanOf(m.Temps), spanOf(m.Body)}
	tree.Walk(m, func(n tree.Node) bool {
		out = append(out, spanOf(n.Kids), spanOf(n.Names))
		return true
	})
	return slices.DeleteFunc(out, func(s span) bool { return s.from == s.to })
}

// Answers are new memory, and no two lists share any.
func TestMemory(t *testing.T) {
	r := rand.New(rand.NewSource(114))
	for range 2000 {
		m := someMethod(r)
		s := written(r, &m)
		a, _, _ := Method(s)
		b, _, _ := Method(s)
		all := append(spans(a), spans(b)...)
		slices.SortFunc(all, func(x, y span) int { return int(x.from) - int(y.from) })
		for i := 1; i < len(all); i++ {
			if all[i].from < all[i-1].to {
				t.Fatalf("P11.4: two lists of %q share memory", s)
			}
		}
		if !reflect.DeepEqual(a, b) {
			t.Fatalf("P11.4: Method(%q) = %v, and then %v", s, a, b)
		}
	}
}

// Texts of any length, of what may be repeated: each call ends.
func TestGreat(t *testing.T) {
	long := func(piece string, size int) string { return strings.Repeat(piece, size/len(piece)) }
	for _, piece := range []string{" foo", "+1", " + x foo", ". x", "; foo", " a: 1", "(", "[", "#(", "x:=", ")", "-", "|", " |", ":", "^", "[:a|", "; a: (", " foo; bar. x", "\"\"", "'' ,", "!", "a:", "#a:", " -1", "."} {
		for _, first := range []string{"foo x foo", "foo ", "foo #(", "foo [", "", "foo | a"} {
			s := first + long(piece, 1<<18)
			if m, at, e := Method(s); e != api.OK && (!reflect.DeepEqual(m, tree.Method{}) || at < 0 || at > len(s)) {
				t.Errorf("P11.1: Method of %q and many %q: %d at %d", first, piece, e, at)
			}
		}
	}
	checkWrong(t, " foo x"+long(" foo", 1<<23), 1, api.ErrDeep)
	checkWrong(t, " foo x"+long(" + 1", 1<<23), 1, api.ErrDeep)
	checkWrong(t, " foo x"+long(" foo", 1<<23)+" #", len(" foo x")+1<<23+1, api.ErrForm)
	checkWrong(t, " foo x"+long(" foo", 1<<23)+" a: #("+strings.Repeat("a:", 33)+")", 1, api.ErrSize)
	checkWrong(t, " foo x"+strings.Repeat(" a: 1", 33)+" foo. x"+long(" foo", 1<<23), 1, api.ErrForm)
	checkWrong(t, "foo x"+strings.Repeat(" foo", 40)+strings.Repeat(" a: 1", 33), 0, api.ErrForm)
}
