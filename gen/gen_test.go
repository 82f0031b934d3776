package gen

import (
	"math/rand"
	"reflect"
	"slices"
	"strconv"
	"strings"
	"testing"

	"foundling/api"
	"foundling/code"
	"foundling/parse"
	"foundling/scope"
	"foundling/tree"
)

// resolved: a method's text, in a class with the fields f and g, where Object and Other are globals.
func resolved(t *testing.T, text string) scope.Code {
	t.Helper()
	m, at, e := parse.Method(text)
	if e != api.OK {
		t.Fatalf("%q can't be read: %d, %d", text, at, e)
	}
	c, at, e := scope.Resolve(m, []string{"f", "g"}, []string{"Object", "Other"})
	if e != api.OK {
		t.Fatalf("%q can't be resolved: %d, %d", text, at, e)
	}
	return c
}

// listing: code in a line, without places.
func listing(t *testing.T, b []byte) string {
	t.Helper()
	text, e := code.Text(b)
	if e != api.OK {
		t.Fatalf("P15.2: %x: %d", b, e)
	}
	var out []string
	for line := range strings.Lines(text) {
		_, line, _ = strings.Cut(strings.TrimSpace(line), " ")
		out = append(out, line)
	}
	return strings.Join(out, ". ")
}

// spelt: literals in a line.
func spelt(list []scope.Item) string {
	var out []string
	for _, i := range list {
		switch i.Kind {
		case scope.List:
			out = append(out, "("+spelt(i.Kids)+")")
		case scope.Symbol:
			out = append(out, "#"+i.Name)
		case scope.Text:
			out = append(out, "'"+i.Name+"'")
		case scope.Global:
			out = append(out, "@"+i.Name)
		case scope.Int:
			s, _ := lexed(i.Num)
			out = append(out, s)
		default:
			out = append(out, map[int]string{scope.Nil: "nil", scope.True: "true", scope.False: "false"}[i.Kind])
		}
	}
	return strings.Join(out, " ")
}

func lexed(n int64) (string, api.Errno) {
	text, e := tree.Print(tree.Method{Name: "x", Body: []tree.Node{{Kind: tree.Int, Num: n}}})
	return strings.TrimPrefix(text, "x "), e
}

// The statement of a method, what is ahead of its "Pop. PushSelf. Return", and the literals.
func TestStatements(t *testing.T) {
	for _, c := range [][3]string{
		// Values.
		{"0", "PushSmall 0", ""},
		{"-128. 127", "PushSmall -128. Pop. PushSmall 127", ""},
		{"-129. 128", "PushLit 0. Pop. PushLit 1", "-129 128"},
		{"4611686018427387903", "PushLit 0", "4611686018427387903"},
		{"$a", "PushSmall 97", ""},
		{"$" + "\xff", "PushLit 0", "255"},
		{"'a'", "PushLit 0", "'a'"},
		{"''", "PushLit 0", "''"},
		{"#a", "PushLit 0", "#a"},
		{"#()", "PushLit 0", "()"},
		{"Object", "PushLit 0", "@Object"},
		{"nil. true. false. self", "PushNil. Pop. PushTrue. Pop. PushFalse. Pop. PushSelf", ""},
		{"a. c", "PushTemp 0. Pop. PushTemp 2", ""},
		{"f. g", "PushField 0. Pop. PushField 1", ""},
		{"c := 1", "PushSmall 1. StoreTemp 2", ""},
		{"g := 1", "PushSmall 1. StoreField 1", ""},
		{"c := g := d := a", "PushTemp 0. StoreTemp 3. StoreField 1. StoreTemp 2", ""},
		// Literals, each once.
		{"#a. 'a'. Object. #Object. 'Object'. #a. 'a'. Object. #Object", "PushLit 0. Pop. PushLit 1. Pop. PushLit 2. Pop. PushLit 3. Pop. PushLit 4. Pop. PushLit 0. Pop. PushLit 1. Pop. PushLit 2. Pop. PushLit 3", "#a 'a' @Object #Object 'Object'"},
		{"300. -300. 300. '300'. #(300). #(300). #('300')", "PushLit 0. Pop. PushLit 1. Pop. PushLit 0. Pop. PushLit 2. Pop. PushLit 3. Pop. PushLit 3. Pop. PushLit 4", "300 -300 '300' (300) ('300')"},
		{"#(1 (2 #a 'b' nil) true false). #(1 (2 #a 'b' nil) true false). #(1 (2 a b nil) true false). #(1 2). #((1) 2). #((1 2)). #(1 (2))", "PushLit 0. Pop. PushLit 0. Pop. PushLit 1. Pop. PushLit 2. Pop. PushLit 3. Pop. PushLit 4. Pop. PushLit 5", "(1 (2 #a 'b' nil) true false) (1 (2 #a #b nil) true false) (1 2) ((1) 2) ((1 2)) (1 (2))"},
		{"#(). #(()). #(() ()). #((())). #(nil). #(#nil). #('')", "PushLit 0. Pop. PushLit 1. Pop. PushLit 2. Pop. PushLit 3. Pop. PushLit 4. Pop. PushLit 5. Pop. PushLit 6", "() (()) (() ()) ((())) (nil) (#nil) ('')"},
		{"#('a' 'b'). #('a 1 b'). #('ab' ''). #('' 'ab')", "PushLit 0. Pop. PushLit 1. Pop. PushLit 2. Pop. PushLit 3", "('a' 'b') ('a 1 b') ('ab' '') ('' 'ab')"},
		{"#('x' '2 0 0 y'). #('x2 0 0 ' 'y'). #('x' 2 0). #('x 2' 0)", "PushLit 0. Pop. PushLit 1. Pop. PushLit 2. Pop. PushLit 3", "('x' '2 0 0 y') ('x2 0 0 ' 'y') ('x' 2 0) ('x 2' 0)"},
		{"a foo. #foo. a foo. 'foo'", "PushTemp 0. Send 0 0. Pop. PushLit 0. Pop. PushTemp 0. Send 0 0. Pop. PushLit 1", "#foo 'foo'"},
		// Sends.
		{"a foo", "PushTemp 0. Send 0 0", "#foo"},
		{"a + 300", "PushTemp 0. PushLit 0. Send 1 1", "300 #+"},
		{"'r' at: 'x' put: #y", "PushLit 0. PushLit 1. PushLit 2. Send 3 2", "'r' 'x' #y #at:put:"},
		{"a foo bar - (b foo)", "PushTemp 0. Send 0 0. Send 1 0. PushTemp 1. Send 0 0. Send 2 1", "#foo #bar #-"},
		{"super foo. super at: 1 put: super bar", "PushSelf. SuperSend 0 0. Pop. PushSelf. PushSmall 1. PushSelf. SuperSend 1 0. SuperSend 2 2", "#foo #bar #at:put:"},
		{"self a: 1 b: 2 c: 3 d: 4 e: 5 f: 6 g: 7 h: 8 i: 9 j: 10 k: 11 l: 12", "PushSelf. PushSmall 1. PushSmall 2. PushSmall 3. PushSmall 4. PushSmall 5. PushSmall 6. PushSmall 7. PushSmall 8. PushSmall 9. PushSmall 10. PushSmall 11. PushSmall 12. Send 0 12", "#a:b:c:d:e:f:g:h:i:j:k:l:"},
		// Cascades.
		{"a foo; bar", "PushTemp 0. Dup. Send 0 0. Pop. Send 1 0", "#foo #bar"},
		{"a foo; foo; foo", "PushTemp 0. Dup. Send 0 0. Pop. Dup. Send 0 0. Pop. Send 0 0", "#foo"},
		{"a at: 1 put: 2; + 'x'; bar; z: 3", "PushTemp 0. Dup. PushSmall 1. PushSmall 2. Send 0 2. Pop. Dup. PushLit 1. Send 2 1. Pop. Dup. Send 3 0. Pop. PushSmall 3. Send 4 1", "#at:put: 'x' #+ #bar #z:"},
		{"a foo bar; baz", "PushTemp 0. Send 0 0. Dup. Send 1 0. Pop. Send 2 0", "#foo #bar #baz"},
		{"a + (b foo; bar); baz", "PushTemp 0. Dup. PushTemp 1. Dup. Send 0 0. Pop. Send 1 0. Send 2 1. Pop. Send 3 0", "#foo #bar #+ #baz"},
		{"super foo bar; baz", "PushSelf. SuperSend 0 0. Dup. Send 1 0. Pop. Send 2 0", "#foo #bar #baz"},
	} {
		out, e := Compile(resolved(t, "a: a b: b | c d | "+c[0]))
		if got := listing(t, out.Code); e != api.OK || got != c[1]+". Pop. PushSelf. Return" || spelt(out.Lits) != c[2] {
			t.Errorf("P15.1: %q: %d\n%s | %s\nwant\n%s. Pop. PushSelf. Return | %s", c[0], e, got, spelt(out.Lits), c[1], c[2])
		}
	}
}

// Methods, and the code of each; slots of blocks are 2 and above.
func TestMethods(t *testing.T) {
	for _, c := range [][2]string{
		{"", "PushSelf. Return"},
		{"^1", "PushSmall 1. Return"},
		{"^self", "PushSelf. Return"},
		{"a. ^b", "PushTemp 0. Pop. PushTemp 1. Return"},
		{"a. b", "PushTemp 0. Pop. PushTemp 1. Pop. PushSelf. Return"},
		// Blocks.
		{"[]", "Block 0 2. PushNil. End. Pop. PushSelf. Return"},
		{"[1]", "Block 0 3. PushSmall 1. End. Pop. PushSelf. Return"},
		{"[^1]", "Block 0 3. PushSmall 1. Return. Pop. PushSelf. Return"},
		{"[1. ^2]", "Block 0 6. PushSmall 1. Pop. PushSmall 2. Return. Pop. PushSelf. Return"},
		{"[1. 2. 3]", "Block 0 9. PushSmall 1. Pop. PushSmall 2. Pop. PushSmall 3. End. Pop. PushSelf. Return"},
		{"[:p]", "Block 1 5. StoreTemp 2. Pop. PushNil. End. Pop. PushSelf. Return"},
		{"[:p :q :r | q]", "Block 3 12. StoreTemp 4. Pop. StoreTemp 3. Pop. StoreTemp 2. Pop. PushTemp 3. End. Pop. PushSelf. Return"},
		{"[| v | v]", "Block 0 7. PushNil. StoreTemp 2. Pop. PushTemp 2. End. Pop. PushSelf. Return"},
		{"[| v w |]", "Block 0 10. PushNil. StoreTemp 2. Pop. PushNil. StoreTemp 3. Pop. PushNil. End. Pop. PushSelf. Return"},
		{"[:p :q | | v w | v := p. ^w]", "Block 2 22. StoreTemp 3. Pop. StoreTemp 2. Pop. PushNil. StoreTemp 4. Pop. PushNil. StoreTemp 5. Pop. PushTemp 2. StoreTemp 4. Pop. PushTemp 5. Return. Pop. PushSelf. Return"},
		{"^[[:p | [p]]]", "Block 0 16. Block 1 11. StoreTemp 2. Pop. Block 0 3. PushTemp 2. End. End. End. Return"},
		{"[:p | ] value: [:q | ]", "Block 1 5. StoreTemp 2. Pop. PushNil. End. Block 1 5. StoreTemp 3. Pop. PushNil. End. Send 0 1. Pop. PushSelf. Return"},
		// In line.
		{"^a ifTrue: [1]", "PushTemp 0. JumpFalse 5. PushSmall 1. Jump 1. PushNil. Return"},
		{"^a ifFalse: [1]", "PushTemp 0. JumpTrue 5. PushSmall 1. Jump 1. PushNil. Return"},
		{"^a ifTrue: [1] ifFalse: [nil]", "PushTemp 0. JumpFalse 5. PushSmall 1. Jump 1. PushNil. Return"},
		{"^a ifTrue: [nil] ifFalse: [1. 2]", "PushTemp 0. JumpFalse 4. PushNil. Jump 5. PushSmall 1. Pop. PushSmall 2. Return"},
		{"^a ifFalse: [nil] ifTrue: [1]", "PushTemp 0. JumpTrue 4. PushNil. Jump 2. PushSmall 1. Return"},
		{"^a and: [b]", "PushTemp 0. JumpFalse 5. PushTemp 1. Jump 1. PushFalse. Return"},
		{"^a or: [b]", "PushTemp 0. JumpTrue 5. PushTemp 1. Jump 1. PushTrue. Return"},
		{"^[a] whileTrue: [b]", "PushTemp 0. JumpFalse 6. PushTemp 1. Pop. Jump -11. PushNil. Return"},
		{"^[a] whileFalse: [b]", "PushTemp 0. JumpTrue 6. PushTemp 1. Pop. Jump -11. PushNil. Return"},
		{"^[a] whileTrue", "PushTemp 0. JumpFalse 3. Jump -8. PushNil. Return"},
		{"^[a] whileFalse", "PushTemp 0. JumpTrue 3. Jump -8. PushNil. Return"},
		{"a ifTrue: [b]", "PushTemp 0. JumpFalse 5. PushTemp 1. Jump 1. PushNil. Pop. PushSelf. Return"},
		// Bodies without statements, with variables, with a Return.
		{"^a ifTrue: []", "PushTemp 0. JumpFalse 4. PushNil. Jump 1. PushNil. Return"},
		{"^a ifTrue: [] ifFalse: []", "PushTemp 0. JumpFalse 4. PushNil. Jump 1. PushNil. Return"},
		{"^[] whileTrue: []", "PushNil. JumpFalse 5. PushNil. Pop. Jump -9. PushNil. Return"},
		{"^[] whileTrue", "PushNil. JumpFalse 3. Jump -7. PushNil. Return"},
		{"^a and: [| v w | v]", "PushTemp 0. JumpFalse 13. PushNil. StoreTemp 2. Pop. PushNil. StoreTemp 3. Pop. PushTemp 2. Jump 1. PushFalse. Return"},
		{"^a or: [| v |]", "PushTemp 0. JumpTrue 8. PushNil. StoreTemp 2. Pop. PushNil. Jump 1. PushTrue. Return"},
		{"^[| v | v] whileTrue: [| w | w]", "PushNil. StoreTemp 2. Pop. PushTemp 2. JumpFalse 10. PushNil. StoreTemp 3. Pop. PushTemp 3. Pop. Jump -19. PushNil. Return"},
		{"^a ifTrue: [^1]", "PushTemp 0. JumpFalse 6. PushSmall 1. Return. Jump 1. PushNil. Return"},
		{"^a ifTrue: [^1] ifFalse: [^2]", "PushTemp 0. JumpFalse 6. PushSmall 1. Return. Jump 3. PushSmall 2. Return. Return"},
		{"a ifTrue: [^1] ifFalse: [^2]", "PushTemp 0. JumpFalse 6. PushSmall 1. Return. Jump 3. PushSmall 2. Return. Pop. PushSelf. Return"},
		{"^[^a] whileTrue: [^b]", "PushTemp 0. Return. JumpFalse 7. PushTemp 1. Return. Pop. Jump -13. PushNil. Return"},
		{"^[^a] whileFalse", "PushTemp 0. Return. JumpTrue 3. Jump -9. PushNil. Return"},
		{"[a ifTrue: [^1] ifFalse: [^2]]", "Block 0 15. PushTemp 0. JumpFalse 6. PushSmall 1. Return. Jump 3. PushSmall 2. Return. End. Pop. PushSelf. Return"},
		{"[a ifTrue: [1]]", "Block 0 12. PushTemp 0. JumpFalse 5. PushSmall 1. Jump 1. PushNil. End. Pop. PushSelf. Return"},
		{"[a ifTrue: [[:p]]]", "Block 0 19. PushTemp 0. JumpFalse 12. Block 1 5. StoreTemp 2. Pop. PushNil. End. Jump 1. PushNil. End. Pop. PushSelf. Return"},
		// One within another.
		{"^a ifTrue: [b ifFalse: [1]]", "PushTemp 0. JumpFalse 14. PushTemp 1. JumpTrue 5. PushSmall 1. Jump 1. PushNil. Jump 1. PushNil. Return"},
		{"^(a and: [b]) or: [1]", "PushTemp 0. JumpFalse 5. PushTemp 1. Jump 1. PushFalse. JumpTrue 5. PushSmall 1. Jump 1. PushTrue. Return"},
		{"^[[a] whileTrue] whileFalse: [[b] whileTrue]", "PushTemp 0. JumpFalse 3. Jump -8. PushNil. JumpTrue 13. PushTemp 1. JumpFalse 3. Jump -8. PushNil. Pop. Jump -25. PushNil. Return"},
		{"^[a and: [| v | v]] whileTrue: [| w | w or: [| x | x]]", "PushTemp 0. JumpFalse 9. PushNil. StoreTemp 2. Pop. PushTemp 2. Jump 1. PushFalse. JumpFalse 23. PushNil. StoreTemp 3. Pop. PushTemp 3. JumpTrue 9. PushNil. StoreTemp 4. Pop. PushTemp 4. Jump 1. PushTrue. Pop. Jump -41. PushNil. Return"},
		// What is none: another receiver or argument, a Block with parameters, a Cascade, super, a message of another name.
		{"^a ifTrue: b", "PushTemp 0. PushTemp 1. Send 0 1. Return"},
		{"^a ifFalse: nil", "PushTemp 0. PushNil. Send 0 1. Return"},
		{"^a and: 1", "PushTemp 0. PushSmall 1. Send 0 1. Return"},
		{"^a or: b", "PushTemp 0. PushTemp 1. Send 0 1. Return"},
		{"^a ifTrue: [1] ifFalse: b", "PushTemp 0. Block 0 3. PushSmall 1. End. PushTemp 1. Send 0 2. Return"},
		{"^a ifTrue: b ifFalse: [1]", "PushTemp 0. PushTemp 1. Block 0 3. PushSmall 1. End. Send 0 2. Return"},
		{"^a ifFalse: [1] ifTrue: b", "PushTemp 0. Block 0 3. PushSmall 1. End. PushTemp 1. Send 0 2. Return"},
		{"^a whileTrue: [b]", "PushTemp 0. Block 0 3. PushTemp 1. End. Send 0 1. Return"},
		{"^a whileFalse: [b]", "PushTemp 0. Block 0 3. PushTemp 1. End. Send 0 1. Return"},
		{"^[a] whileTrue: b", "Block 0 3. PushTemp 0. End. PushTemp 1. Send 0 1. Return"},
		{"^[a] whileFalse: b", "Block 0 3. PushTemp 0. End. PushTemp 1. Send 0 1. Return"},
		{"^a whileTrue", "PushTemp 0. Send 0 0. Return"},
		{"^a whileFalse", "PushTemp 0. Send 0 0. Return"},
		{"^a ifTrue: [:p | p]", "PushTemp 0. Block 1 6. StoreTemp 2. Pop. PushTemp 2. End. Send 0 1. Return"},
		{"^a ifTrue: [1] ifFalse: [:p | p]", "PushTemp 0. Block 0 3. PushSmall 1. End. Block 1 6. StoreTemp 2. Pop. PushTemp 2. End. Send 0 2. Return"},
		{"^[:p | p] whileTrue", "Block 1 6. StoreTemp 2. Pop. PushTemp 2. End. Send 0 0. Return"},
		{"^[:p | p] whileTrue: [1]", "Block 1 6. StoreTemp 2. Pop. PushTemp 2. End. Block 0 3. PushSmall 1. End. Send 0 1. Return"},
		{"^[1] whileFalse: [:p | p]", "Block 0 3. PushSmall 1. End. Block 1 6. StoreTemp 2. Pop. PushTemp 2. End. Send 0 1. Return"},
		{"^a ifTrue: [1]; foo", "PushTemp 0. Dup. Block 0 3. PushSmall 1. End. Send 0 1. Pop. Send 1 0. Return"},
		{"^a foo; ifTrue: [1]", "PushTemp 0. Dup. Send 0 0. Pop. Block 0 3. PushSmall 1. End. Send 1 1. Return"},
		{"^[a] whileTrue; whileFalse: [b]; foo", "Block 0 3. PushTemp 0. End. Dup. Send 0 0. Pop. Dup. Block 0 3. PushTemp 1. End. Send 1 1. Pop. Send 2 0. Return"},
		{"^(a ifTrue: [b]) foo; bar", "PushTemp 0. JumpFalse 5. PushTemp 1. Jump 1. PushNil. Dup. Send 0 0. Pop. Send 1 0. Return"},
		{"^a foo; x: (b and: [1])", "PushTemp 0. Dup. Send 0 0. Pop. PushTemp 1. JumpFalse 5. PushSmall 1. Jump 1. PushFalse. Send 1 1. Return"},
		{"^super ifTrue: [1]", "PushSelf. Block 0 3. PushSmall 1. End. SuperSend 0 1. Return"},
		{"^super and: [1]", "PushSelf. Block 0 3. PushSmall 1. End. SuperSend 0 1. Return"},
		{"^[1] ifTrue: [2]", "Block 0 3. PushSmall 1. End. JumpFalse 5. PushSmall 2. Jump 1. PushNil. Return"},
		{"^a ifTrue: [1] ifTrue: [2]", "PushTemp 0. Block 0 3. PushSmall 1. End. Block 0 3. PushSmall 2. End. Send 0 2. Return"},
		{"^a and: [1] or: [2]", "PushTemp 0. Block 0 3. PushSmall 1. End. Block 0 3. PushSmall 2. End. Send 0 2. Return"},
		{"^a ifTrue", "PushTemp 0. Send 0 0. Return"},
		{"^[a] whileTrue: [b] whileFalse: [1]", "Block 0 3. PushTemp 0. End. Block 0 3. PushTemp 1. End. Block 0 3. PushSmall 1. End. Send 0 2. Return"},
		{"^a IfTrue: [1]", "PushTemp 0. Block 0 3. PushSmall 1. End. Send 0 1. Return"},
		{"^a & [1]", "PushTemp 0. Block 0 3. PushSmall 1. End. Send 0 1. Return"},
	} {
		out, e := Compile(resolved(t, "a: a b: b "+c[0]))
		if got := listing(t, out.Code); e != api.OK || got != c[1] {
			t.Errorf("P15.1: %q: %d\n%s\nwant\n%s", c[0], e, got, c[1])
		}
	}
}

// What is in line uses no literal of its name, and literals stand in the order in which the code names them.
func TestLiterals(t *testing.T) {
	for text, want := range map[string]string{
		"a ifTrue: ['x'] ifFalse: ['y']":         "'x' 'y'",
		"a ifTrue: b":                            "#ifTrue:",
		"'r' ifTrue: ['x']; ifFalse: ['y']":      "'r' 'x' #ifTrue: 'y' #ifFalse:",
		"['x'] whileTrue: ['y']":                 "'x' 'y'",
		"[:p | 'x'] value: 'y'":                  "'x' 'y' #value:",
		"'a' + 'b' * 'c'":                        "'a' 'b' #+ 'c' #*",
		"'a' k: ('b' l: 'c') m: 'd'":             "'a' 'b' 'c' #l: 'd' #k:m:",
		"Object foo: Other. #Other":              "@Object @Other #foo: #Other",
		"a := #ifTrue:. [b] whileTrue. #(foo)":   "#ifTrue: (#foo)",
		"['in'] foo. 'in'. ['out' bar. ^'in']":   "'in' #foo 'out' #bar",
		"^#('x' #('y')) foo: #y bar: #('y')":     "('x' ('y')) #y ('y') #foo:bar:",
		"1000 foo. -1000 foo. 100 foo. 1000 foo": "1000 #foo -1000",
	} {
		out, e := Compile(resolved(t, "foo | a b | "+text))
		if e != api.OK || spelt(out.Lits) != want {
			t.Errorf("P15.1: %q: %d, %s, want %s", text, e, spelt(out.Lits), want)
		}
	}
}

// What isn't code: it is as it was.
func TestKept(t *testing.T) {
	for text, want := range map[string]Out{
		"foo":                                              Out{Name: "foo", Stack: 1},
		"+ x <primitive: 999>":                             Out{Name: "+", Args: 1, Slots: 1, Prim: 999, Stack: 1},
		"at: x put: y | t | [:p | | q | ] k":               Out{Name: "at:put:", Args: 2, Slots: 5, Stack: 1},
		"foo ^1 + 2":                                       Out{Name: "foo", Stack: 2},
		"foo ^1 + (2 * 3)":                                 Out{Name: "foo", Stack: 3},
		"foo ^1 foo; bar: 2":                               Out{Name: "foo", Stack: 2},
		"foo ^1 foo: 2; bar":                               Out{Name: "foo", Stack: 3},
		"foo [:a :b :c | ]":                                Out{Name: "foo", Slots: 3, Stack: 3},
		"foo ^[3 k: 4 l: 5] k":                             Out{Name: "foo", Stack: 3},
		"foo ^true ifTrue: [1] ifFalse: [1 + 2]":           Out{Name: "foo", Stack: 2},
		"foo ^1 + (true ifTrue: [2 + 3] ifFalse: [4])":     Out{Name: "foo", Stack: 3},
		"foo ^1 + (true ifTrue: [^2] ifFalse: [4])":        Out{Name: "foo", Stack: 2},
		"foo [^1] whileTrue: [1 a: 2 b: 3 c: 4]. 1 + 2":    Out{Name: "foo", Stack: 1},
		"foo ^[^1] whileFalse":                             Out{Name: "foo", Stack: 1},
		"foo true ifTrue: [^1] ifFalse: [^2]. 1 k: 2 l: 3": Out{Name: "foo", Stack: 1},
	} {
		out, e := Compile(resolved(t, text))
		if stack := walked(out.Code); stack != want.Stack {
			t.Errorf("P15.3: %q: %d by walking, want %d", text, stack, want.Stack)
		}
		out.Lits, out.Code = nil, nil
		if e != api.OK || !reflect.DeepEqual(out, want) {
			t.Errorf("P15.1, P15.3: %q: %+v, %d, want %+v", text, out, e, want)
		}
	}
}

func TestExample(t *testing.T) {
	out, e := Compile(resolved(t, "foo ^3 < 4 ifTrue: [1]"))
	want := Out{Name: "foo", Stack: 2, Lits: []scope.Item{{Kind: scope.Symbol, Name: "<"}}, Code: []byte{4, 3, 4, 4, 12, 0, 1, 16, 5, 0, 4, 1, 14, 1, 0, 1, 18}}
	if e != api.OK || !reflect.DeepEqual(out, want) {
		t.Errorf("P15.1: %+v, %d", out, e)
	}
	odd := scope.Code{Name: "at:", Args: -3, Slots: 1 << 40, Prim: 5000}
	if out, e := Compile(odd); e != api.OK || !reflect.DeepEqual(out, Out{Name: "at:", Args: -3, Slots: 1 << 40, Prim: 5000, Stack: 1, Code: []byte{0, 18}}) {
		t.Errorf("P15.1: %+v: %+v, %d", odd, out, e)
	}
	if out, e := Compile(scope.Code{}); e != api.OK || !reflect.DeepEqual(out, Out{Stack: 1, Code: []byte{0, 18}}) {
		t.Errorf("P15.1: of no Code %+v, %d", out, e)
	}
}

// same: an answer and the model's; what is answered is right, and its stack is what walking it needs.
func same(t *testing.T, c scope.Code) {
	t.Helper()
	want, wantE := modelCompile(c)
	got, e := Compile(c)
	if e != wantE || !reflect.DeepEqual(got, want) {
		t.Fatalf("P15.1: %+v:\n%+v, %d, want\n%+v, %d", c, got, e, want, wantE)
	}
	if e != api.OK {
		return
	}
	if stack, e := code.Check(got.Code, len(got.Lits), got.Slots, 256); e != api.OK || stack != got.Stack {
		t.Fatalf("P15.2, P15.3: %+v: %d, %d", c, stack, e)
	}
}

// Codes by chance, whose parts stand where they may, are as the model says.
func TestChance(t *testing.T) {
	refused := 0
	for seed := range int64(20000) {
		m := &maker{Rand: rand.New(rand.NewSource(seed))}
		c := m.code()
		same(t, c)
		if _, e := Compile(c); e != api.OK {
			refused++
		}
	}
	if refused > 2000 {
		t.Errorf("too many of the Codes by chance are too great: %d", refused)
	}
}

// Texts by chance, as they are read and resolved.
func TestTexts(t *testing.T) {
	for seed := range int64(5000) {
		w := &texts{Rand: rand.New(rand.NewSource(seed))}
		text := "a: a b: b | c d | " + w.statements(1+w.Intn(5))
		m, at, e := parse.Method(text)
		if e != api.OK {
			t.Fatalf("%q can't be read: %d, %d", text, at, e)
		}
		if c, _, e := scope.Resolve(m, []string{"f", "g"}, []string{"Object", "Other"}); e == api.OK {
			same(t, c)
		} else if e != api.ErrSize {
			t.Fatalf("%q can't be resolved: %d", text, e)
		}
	}
}

// texts: of methods, by chance.
type texts struct {
	*rand.Rand
	names []string
	count int
}

func (w *texts) one(list ...string) string { return list[w.Intn(len(list))] }

func (w *texts) statements(deep int) string {
	var list []string
	for range w.Intn(4) {
		list = append(list, w.value(deep))
	}
	if w.Intn(4) == 0 {
		list = append(list, "^"+w.value(deep-1))
	}
	return strings.Join(list, ". ")
}

func (w *texts) value(deep int) string {
	if deep <= 1 {
		return w.one(append([]string{"a", "b", "c", "d", "f", "g", "self", "nil", "true", "false", "Object", "Other", "1", "-129", "-128", "127", "128", "'x'", "#x", "#(1 (2 x) 'y')", "''"}, w.names...)...)
	}
	sub := func() string { return "(" + w.value(deep-1) + ")" }
	switch w.Intn(12) {
	case 0:
		return w.one("c", "d", "f", "g") + " := " + w.value(deep-1)
	case 1:
		return sub() + w.one(" foo", " bar", " whileTrue", " whileFalse")
	case 2:
		return w.one("super", sub()) + w.one(" + ", " ifTrue: ", " and: ", " foo: ") + sub()
	case 3:
		return sub() + " k: " + sub() + "; foo; ifTrue: " + w.block(deep) + w.one("", "; + 3")
	case 4, 5:
		return w.block(deep)
	case 6:
		return w.plain(deep) + w.one(" whileTrue", " whileFalse")
	case 7:
		return w.plain(deep) + w.one(" whileTrue: ", " whileFalse: ") + w.plain(deep)
	case 8:
		return sub() + w.one(" ifTrue: ", " ifFalse: ") + w.plain(deep)
	case 9:
		return sub() + " ifTrue: " + w.plain(deep) + " ifFalse: " + w.plain(deep)
	case 10:
		return sub() + " ifFalse: " + w.plain(deep) + " ifTrue: " + w.block(deep)
	}
	return sub() + w.one(" and: ", " or: ") + w.plain(deep)
}

// within: a block's text with some names more, that begins so.
func (w *texts) within(params, variables, deep int) string {
	known := w.names
	name := func() string {
		w.count++
		w.names = append(slices.Clone(w.names), "v"+strconv.Itoa(w.count))
		return w.names[len(w.names)-1]
	}
	out := "["
	for range params {
		out += ":" + name() + " "
	}
	if params > 0 {
		out += "| "
	}
	if variables > 0 {
		out += "| "
		for range variables {
			out += name() + " "
		}
		out += "| "
	}
	out += w.statements(deep-1) + "]"
	w.names = known
	return out
}

func (w *texts) block(deep int) string { return w.within(w.Intn(3), w.Intn(3), deep) }

func (w *texts) plain(deep int) string { return w.within(0, w.Intn(2), deep) }
