package scope

import (
	"math"
	"math/rand"
	"reflect"
	"slices"
	"strconv"
	"strings"
	"testing"
	"unsafe"

	"foundling/api"
	"foundling/parse"
	"foundling/tree"
)

// Items, shortly.
var (
	me   = Item{Kind: Self}
	null = Item{Kind: Nil}
)

func num(n int64) Item                 { return Item{Kind: Int, Num: n} }
func temp(n int) Item                  { return Item{Kind: Temp, Slot: n} }
func field(n int) Item                 { return Item{Kind: Field, Slot: n} }
func global(s string) Item             { return Item{Kind: Global, Name: s} }
func setTemp(n int, kid Item) Item     { return Item{Kind: SetTemp, Slot: n, Kids: []Item{kid}} }
func setField(n int, kid Item) Item    { return Item{Kind: SetField, Slot: n, Kids: []Item{kid}} }
func send(s string, kids ...Item) Item { return Item{Kind: Send, Name: s, Kids: kids} }
func toSuper(s string, kids ...Item) Item {
	return Item{Kind: SuperSend, Name: s, Kids: append([]Item{me}, kids...)}
}
func list(kids ...Item) Item    { return Item{Kind: List, Kids: kids} }
func cascade(kids ...Item) Item { return Item{Kind: Cascade, Kids: kids} }
func further(s string, kids ...Item) Item {
	return send(s, append([]Item{{Kind: Hole}}, kids...)...)
}
func answer(kid Item) Item { return Item{Kind: Return, Kids: []Item{kid}} }
func block(params int64, slot, width int, kids ...Item) Item {
	return Item{Kind: Block, Num: params, Slot: slot, Width: width, Kids: kids}
}

// read: a method's text.
func read(t *testing.T, s string) tree.Method {
	t.Helper()
	m, at, e := parse.Method(s)
	if e != api.OK {
		t.Fatalf("Method(%.200q): %d at %d", s, e, at)
	}
	return m
}

// checkCode: is this the Code, with these fields and globals (with blanks between)?
func checkCode(t *testing.T, s, fields, globals string, want Code) {
	t.Helper()
	got, at, e := Resolve(read(t, s), strings.Fields(fields), strings.Fields(globals))
	if !reflect.DeepEqual(plain(got), plain(want)) || at != 0 || e != api.OK {
		t.Errorf("P13.1: Resolve(%.200q, %q, %q) = %+v, %d, %d, want %+v", s, fields, globals, got, at, e, want)
	}
}

// checkBody: of a method foo with so many slots.
func checkBody(t *testing.T, s, fields, globals string, slots int, body ...Item) {
	t.Helper()
	checkCode(t, "foo "+s, fields, globals, Code{Name: "foo", Slots: slots, Body: body})
}

// checkWrong: is this told, at the place of the mark ` in the text, which is left out of it?
func checkWrong(t *testing.T, s, fields, globals string, e api.Errno) {
	t.Helper()
	at := strings.Index(s, "`")
	s = strings.ReplaceAll(s, "`", "")
	if got, place, told := Resolve(read(t, s), strings.Fields(fields), strings.Fields(globals)); !reflect.DeepEqual(got, Code{}) || place != at || told != e {
		t.Errorf("P13.1: Resolve(%.200q, %q, %q) = %+v, %d, %d, want %d at %d", s, fields, globals, got, place, told, e, at)
	}
}

// plain: lists that are empty are none.
func plain(c Code) Code {
	c.Body = plains(c.Body)
	return c
}

func plains(items []Item) []Item {
	var out []Item
	for _, i := range items {
		i.Kids = plains(i.Kids)
		out = append(out, i)
	}
	return out
}

// names: so many, with blanks between.
func names(head string, count int) string {
	var out []string
	for i := range count {
		out = append(out, head+strconv.Itoa(i))
	}
	return strings.Join(out, " ")
}

// P13.1

func TestExample(t *testing.T) {
	checkCode(t, "foo: x | t | t := x. ^[:i | t := i + a] value: 1", "a", "", Code{"foo:", 1, 3, 0, []Item{
		setTemp(1, temp(0)), answer(send("value:", block(1, 2, 1, setTemp(1, send("+", temp(2), field(0)))), num(1)))}})
}

func TestKinds(t *testing.T) {
	for i, kind := range []int{Int, Text, Symbol, List, Nil, True, False, Self, Global, Temp, Field, SetTemp, SetField, Send, SuperSend, Cascade, Block, Return, Hole} {
		if kind != i+1 {
			t.Errorf("P13.1: kind %d is %d", i+1, kind)
		}
	}
}

// What a method has.
func TestMethods(t *testing.T) {
	checkCode(t, "foo", "", "", Code{Name: "foo"})
	checkCode(t, "foo", "a b", "C D", Code{Name: "foo"})
	checkCode(t, "foo <primitive: 999>", "", "", Code{Name: "foo", Prim: 999})
	checkCode(t, "foo | a b |", "", "", Code{Name: "foo", Slots: 2})
	checkCode(t, "+ x ^x", "", "", Code{"+", 1, 1, 0, []Item{answer(temp(0))}})
	checkCode(t, "a: x b: y <primitive: 1> | u v w | u. v. w. x. ^y", "", "", Code{"a:b:", 2, 5, 1, []Item{temp(2), temp(3), temp(4), temp(0), answer(temp(1))}})
	checkCode(t, "super super", "super", "", Code{"super", 0, 0, 0, []Item{field(0)}})
	checkCode(t, "self: foo foo", "", "", Code{"self:", 1, 1, 0, []Item{temp(0)}})
}

// Each Kind of Node.
func TestNodes(t *testing.T) {
	checkBody(t, "3. -3. 4611686018427387903. -4611686018427387903. $a", "", "", 0, num(3), num(-3), num(api.MaxInt), num(-api.MaxInt), num(97))
	checkBody(t, "''. 'a'. 'super'. #foo. #+. #a:b:. #super. #''. ^#nil", "", "", 0, Item{Kind: Text}, Item{Kind: Text, Name: "a"}, Item{Kind: Text, Name: "super"}, Item{Kind: Symbol, Name: "foo"}, Item{Kind: Symbol, Name: "+"}, Item{Kind: Symbol, Name: "a:b:"}, Item{Kind: Symbol, Name: "super"}, Item{Kind: Symbol}, answer(Item{Kind: Symbol, Name: "nil"}))
	checkBody(t, "nil. true. false. self", "", "", 0, null, Item{Kind: True}, Item{Kind: False}, me)
	checkBody(t, "#(). ^#(1 'a' b #c (nil true) #(false ()) self super)", "b", "", 0, list(), answer(list(num(1), Item{Kind: Text, Name: "a"}, Item{Kind: Symbol, Name: "b"}, Item{Kind: Symbol, Name: "c"}, list(null, Item{Kind: True}), list(Item{Kind: False}, list()), Item{Kind: Symbol, Name: "self"}, Item{Kind: Symbol, Name: "super"})))
	checkBody(t, "#(nil true false)", "nil true false", "nil true false", 0, list(null, Item{Kind: True}, Item{Kind: False}))
	checkBody(t, "A. B foo. ^A + B", "", "B A", 0, global("A"), send("foo", global("B")), answer(send("+", global("A"), global("B"))))
	checkBody(t, "a. c. b foo", "a b c", "", 0, field(0), field(2), send("foo", field(1)))
	checkBody(t, "a := b := 3. ^b := a", "a b", "", 0, setField(0, setField(1, num(3))), answer(setField(1, field(0))))
	checkBody(t, "| a b | a := b := 3. ^b := a", "", "", 2, setTemp(0, setTemp(1, num(3))), answer(setTemp(1, temp(0))))
	checkBody(t, "self foo. 3 + 4. nil a: 1 b: 2. (3 foo) bar", "", "", 0, send("foo", me), send("+", num(3), num(4)), send("a:b:", null, num(1), num(2)), send("bar", send("foo", num(3))))
	checkBody(t, "self foo; bar; + 3; a: nil b: self", "", "", 0, cascade(send("foo", me), further("bar"), further("+", num(3)), further("a:b:", null, me)))
	checkBody(t, "[]. [nil]. [^self]. ^[3. ^nil]", "", "", 0, block(0, 0, 0), block(0, 0, 0, null), block(0, 0, 0, answer(me)), answer(block(0, 0, 0, num(3), answer(null))))
}

// Slots: block by block, a block ahead of those within it, and each has its own.
func TestSlots(t *testing.T) {
	checkBody(t, "[:a]. [| b |]. [:c :d | | e f | e := c. f := d]", "", "", 6, block(1, 0, 1), block(0, 1, 1), block(2, 2, 4, setTemp(4, temp(2)), setTemp(5, temp(3))))
	checkBody(t, "| t | [:a | [:b | [:c | c. b. a. t]. b]. [:d | d. a]]. [:e | e]", "", "", 6,
		block(1, 1, 1, block(1, 2, 1, block(1, 3, 1, temp(3), temp(2), temp(1), temp(0)), temp(2)), block(1, 4, 1, temp(4), temp(1))), block(1, 5, 1, temp(5)))
	// A block without names, at the next slot that is free.
	checkBody(t, "| t | []. [[:a]. []]. [[]. [| b |]]", "", "", 3, block(0, 1, 0), block(0, 1, 0, block(1, 1, 1), block(0, 2, 0)), block(0, 2, 0, block(0, 2, 0), block(0, 2, 1)))
	checkBody(t, "| t | t := [:a | t := [:b | t := b]]", "", "", 3, setTemp(0, block(1, 1, 1, setTemp(0, block(1, 2, 1, setTemp(0, temp(2)))))))
	// Names of a block that is over are free again, and mean what they meant ahead of it.
	checkBody(t, "[:a | a]. [:a | a]. [| a | a := 1]. [[:a | a]. [:a | a]]", "", "", 5, block(1, 0, 1, temp(0)), block(1, 1, 1, temp(1)), block(0, 2, 1, setTemp(2, num(1))), block(0, 3, 0, block(1, 3, 1, temp(3)), block(1, 4, 1, temp(4))))
	checkBody(t, "A. [:A | A]. A", "", "A", 1, global("A"), block(1, 0, 1, temp(0)), global("A"))
	checkBody(t, "[:x | x] value: [:x | x]", "", "", 2, send("value:", block(1, 0, 1, temp(0)), block(1, 1, 1, temp(1))))
	checkBody(t, "([:x | x] foo: [:y | y]) a: [:x | x]; b: [:y | y]", "", "", 4, cascade(send("a:", send("foo:", block(1, 0, 1, temp(0)), block(1, 1, 1, temp(1))), block(1, 2, 1, temp(2))), further("b:", block(1, 3, 1, temp(3)))))
	checkWrong(t, "foo [:a | a]. `a", "", "", api.ErrScope)
	checkWrong(t, "foo [:a | [:b | b]. `b]", "", "", api.ErrScope)
	checkWrong(t, "foo [:a | [:b | b]. [`b]]", "", "", api.ErrScope)
	checkWrong(t, "foo [| a |]. [`a := 1]", "", "", api.ErrScope)
	checkWrong(t, "foo `a. [:a | a]", "", "", api.ErrScope)
	checkWrong(t, "foo | t | t := [:a | a] + `a", "", "", api.ErrScope)
}

// What a name means that several have.
func TestMeanings(t *testing.T) {
	checkCode(t, "foo: x ^x", "", "x", Code{"foo:", 1, 1, 0, []Item{answer(temp(0))}})
	checkBody(t, "| x | x. x := 1. [x]", "", "x", 1, temp(0), setTemp(0, num(1)), block(0, 1, 0, temp(0)))
	checkBody(t, "x. x := 1. [x. x := 2]", "x", "x", 0, field(0), setField(0, num(1)), block(0, 0, 0, field(0), setField(0, num(2))))
	checkBody(t, "x. y. x := y := 1", "x y x x y z", "x", 0, field(3), field(4), setField(3, setField(4, num(1))))
	checkBody(t, "x", "a", "x x b x", 0, global("x"))
	checkBody(t, "xx. X. x", "x X xx", "", 0, field(2), field(1), field(0))
	// A field, whatever its name.
	for _, name := range []string{"self", "nil", "true", "false"} {
		kind := map[string]int{"self": Self, "nil": Nil, "true": True, "false": False}[name]
		checkBody(t, name+". "+name+" foo. self foo: "+name, name, name, 0, Item{Kind: kind}, send("foo", Item{Kind: kind}), send("foo:", me, Item{Kind: kind}))
		checkWrong(t, "foo `"+name+" := 1", name, name, api.ErrScope)
		checkWrong(t, "foo [`"+name+" := 1]", "a "+name, "", api.ErrScope)
	}
	checkBody(t, "A", strings.Repeat("a ", 70000), "A", 0, global("A"))
	checkBody(t, "a", "a "+strings.Repeat("b ", 70000), "A", 0, field(0))
	checkBody(t, "a", strings.Repeat("a ", 70000), "", 0, field(69999))
	checkWrong(t, "foo `a", "", "", api.ErrScope)
	checkWrong(t, "foo ^`a", "b A", "B A aa", api.ErrScope)
	checkWrong(t, "foo 3 foo: `a", "", "", api.ErrScope)
	checkWrong(t, "foo self foo; bar: `a", "", "", api.ErrScope)
}

// Super: where it may stand, and what is sent to it.
func TestSuper(t *testing.T) {
	checkBody(t, "super foo. super + 3. ^super a: 1 b: self", "", "", 0, toSuper("foo"), toSuper("+", num(3)), answer(toSuper("a:b:", num(1), me)))
	checkBody(t, "super foo bar. (super foo). [super foo]. self a: super foo", "", "", 0, send("bar", toSuper("foo")), toSuper("foo"), block(0, 0, 0, toSuper("foo")), send("a:", me, toSuper("foo")))
	checkBody(t, "super foo: (super bar: super baz)", "", "", 0, toSuper("foo:", toSuper("bar:", toSuper("baz"))))
	checkBody(t, "super foo bar; baz", "", "", 0, cascade(send("bar", toSuper("foo")), further("baz")))
	checkBody(t, "self foo; a: super bar", "", "", 0, cascade(send("foo", me), further("a:", toSuper("bar"))))
	checkBody(t, "self a: super bar; foo", "", "", 0, cascade(send("a:", me, toSuper("bar")), further("foo")))
	checkBody(t, "(super foo)", "", "super", 0, toSuper("foo"))
	for _, s := range []string{"`super", "^`super", "self foo: `super", "super foo: `super", "`super foo; bar", "^`super + 3; bar", "self foo; bar: `super", "[`super]", "t := `super"} {
		checkWrong(t, "foo | t | "+s, "", "", api.ErrScope)
		checkWrong(t, "foo | t | "+s, "Super", "super", api.ErrScope)
	}
	// Where a field is named so.
	checkBody(t, "super. ^super", "a super", "", 0, field(1), answer(field(1)))
	checkBody(t, "super foo. super foo: super. self a: super", "super", "super", 0, toSuper("foo"), toSuper("foo:", field(0)), send("a:", me, field(0)))
	checkBody(t, "super foo; bar: super", "super super", "", 0, cascade(send("foo", field(1)), further("bar:", field(1))))
	checkBody(t, "super foo bar; baz", "super", "", 0, cascade(send("bar", toSuper("foo")), further("baz")))
	checkBody(t, "[super] + super foo", "super", "", 0, send("+", block(0, 0, 0, field(0)), toSuper("foo")))
	checkWrong(t, "foo `super := 1", "", "", api.ErrScope)
	checkWrong(t, "foo `super := 1", "super", "super", api.ErrScope)
}

// What can't be assigned.
func TestAssigned(t *testing.T) {
	for _, name := range []string{"self", "super", "nil", "true", "false", "A", "b"} {
		checkWrong(t, "foo `"+name+" := 1", "", "A", api.ErrScope)
		checkWrong(t, "foo | t | t := `"+name+" := 1", "", "A", api.ErrScope)
	}
	checkWrong(t, "foo: x `x := 1", "", "x", api.ErrScope)
	checkWrong(t, "a: x b: y | t | t := `y := 1", "", "", api.ErrScope)
	checkWrong(t, "foo: x ^[`x := 1]", "", "", api.ErrScope)
	checkWrong(t, "foo [:x | `x := 1]", "", "", api.ErrScope)
	checkWrong(t, "foo [:x | | y | y := 1. [`x := 1]]", "", "", api.ErrScope)
	checkWrong(t, "foo [:x :y | | z | z := 1. `y := 1]", "", "", api.ErrScope)
	checkWrong(t, "foo [:x | x]. `x := 1", "x1 x2", "x", api.ErrScope)
	checkWrong(t, "foo [| x | x := 1]. `x := 1", "x1 x2", "x", api.ErrScope)
	checkWrong(t, "foo `x := y", "", "", api.ErrScope)
	checkWrong(t, "foo | x | x := `y", "", "", api.ErrScope)
}

// Names that are taken already.
func TestTaken(t *testing.T) {
	for _, s := range []string{"`a: x b: x", "`a: x b: y c: x", "`foo: x | x |", "`foo | t t |", "`foo | t u t |", " `foo: a", "`foo: x | a |", "`foo | b t |", "`foo: b"} {
		checkWrong(t, s, "a b", "", api.ErrThere)
	}
	for _, s := range []string{"`[:x | x]", "`[:t]", "`[:a]", "`[| x |]", "`[| t |]", "`[| a |]", "`[:y :y]", "`[:y | | y |]", "`[| y y |]", "[:y | `[:y]]", "[:y | `[:z :y | z]]", "[| y | `[| y |]]", "[:y | [:z | `[:y]]]", "[:y]. [:z | [:y]. `[:z]]", "^`[:b]", "self foo: `[:x]", "t := `[:t]"} {
		checkWrong(t, "foo: x | t | "+s, "a b", "", api.ErrThere)
	}
	checkBody(t, "| A | [:B]", "", "A B", 2, block(1, 1, 1))
	checkCode(t, "foo: foo [:bar | bar foo]", "", "", Code{"foo:", 1, 2, 0, []Item{block(1, 1, 1, send("foo", temp(1)))}})
}

// Names that no variable may have; the least error of one name is told.
func TestReserved(t *testing.T) {
	for _, name := range []string{"self", "super", "nil", "true", "false"} {
		for _, s := range []string{"`foo: " + name, "`foo | " + name + " |", "`a: x b: " + name, "`foo | t " + name + " |", "foo `[:" + name + "]", "foo `[| " + name + " |]", "foo `[:x :" + name + "]", "foo [:x | `[:y | | " + name + " |]]"} {
			checkWrong(t, s, "", "", api.ErrScope)
			checkWrong(t, s, "a", name, api.ErrScope)
			checkWrong(t, s, name, "", api.ErrThere)
		}
		checkWrong(t, "`foo: x | "+names("t", 59)+" "+name+" |", "", "", api.ErrSize)
		checkWrong(t, "`foo: x | "+names("t", 59)+" "+name+" |", name, "", api.ErrSize)
		checkWrong(t, "`foo: x | "+names("t", 59)+" x |", "", "", api.ErrSize)
		checkWrong(t, "`foo: "+name+" | "+names("t", 60)+" |", "", "", api.ErrScope)
	}
	for _, name := range []string{"Self", "selfs", "nul", "Nil", "supers", "thisContext"} {
		checkCode(t, "foo: "+name+" ^"+name, "", "", Code{"foo:", 1, 1, 0, []Item{answer(temp(0))}})
	}
}

// How many slots there may be.
func TestManySlots(t *testing.T) {
	checkBody(t, "| "+names("t", 60)+" | t59", "", "", 60, temp(59))
	checkCode(t, "foo: x | "+names("t", 59)+" | t58", "", "", Code{"foo:", 1, 60, 0, []Item{temp(59)}})
	checkWrong(t, "`foo | "+names("t", 61)+" | t60", "", "", api.ErrSize)
	checkWrong(t, "`foo: x | "+names("t", 60)+" |", "", "", api.ErrSize)
	checkBody(t, "| "+names("t", 59)+" | [:x | x. []]", "", "", 60, block(1, 59, 1, temp(59), block(0, 60, 0)))
	checkWrong(t, "foo | "+names("t", 59)+" | [:x | x. `[:y]]", "", "", api.ErrSize)
	checkWrong(t, "foo | "+names("t", 60)+" | [[`[:y]]]", "", "", api.ErrSize)
	checkWrong(t, "foo | "+names("t", 59)+" | [:x | x]. `[:x | x]", "", "", api.ErrSize)
	checkWrong(t, "foo | "+names("t", 58)+" | `[:x :y :z | x]", "", "", api.ErrSize)
	checkWrong(t, "foo `[| "+names("t", 61)+" |]", "", "", api.ErrSize)
	checkBody(t, "[| "+names("t", 60)+" | t59]", "", "", 60, block(0, 0, 60, temp(59)))
	body := make([]Item, 60)
	for i := range body {
		body[i] = block(1, i, 1, temp(i))
	}
	checkBody(t, strings.Repeat("[:x | x]. ", 60), "", "", 60, body...)
	checkWrong(t, "foo "+strings.Repeat("[:x | x]. ", 60)+"`[:x | x]. y", "", "", api.ErrSize)
}

// pattern: of a method with so many parameters.
func pattern(count int) string {
	var out []string
	for i := range count {
		out = append(out, "a: p"+strconv.Itoa(i))
	}
	return strings.Join(out, " ")
}

// parameters: so many of a block.
func parameters(count int) string { return ":" + strings.ReplaceAll(names("p", count), " ", " :") }

// How many parameters, and arguments, there may be.
func TestManyArgs(t *testing.T) {
	checkCode(t, pattern(12)+" | t | p11", "", "", Code{strings.Repeat("a:", 12), 12, 13, 0, []Item{temp(11)}})
	checkWrong(t, "`"+pattern(13), "", "", api.ErrSize)
	checkWrong(t, "`"+pattern(30)+" | t | t", "", "", api.ErrSize)
	checkBody(t, "["+parameters(12)+" | p11]", "", "", 12, block(12, 0, 12, temp(11)))
	checkBody(t, "["+parameters(12)+" | | t | t := p0]", "", "", 13, block(12, 0, 13, setTemp(12, temp(0))))
	checkBody(t, "[| "+names("p", 13)+" | p12]", "", "", 13, block(0, 0, 13, temp(12)))
	checkWrong(t, "foo `["+parameters(13)+" | p11]", "", "", api.ErrSize)
	checkWrong(t, "foo [:x | `["+parameters(13)+" | | t | p11]]", "", "", api.ErrSize)
	args := make([]Item, 13)
	for i := range args {
		args[i] = num(1)
	}
	checkBody(t, "1"+strings.Repeat(" a: 1", 12), "", "", 0, send(strings.Repeat("a:", 12), args...))
	checkBody(t, "super"+strings.Repeat(" a: 1", 12), "", "", 0, toSuper(strings.Repeat("a:", 12), args[1:]...))
	checkBody(t, "1 foo;"+strings.Repeat(" a: 1", 12), "", "", 0, cascade(send("foo", num(1)), further(strings.Repeat("a:", 12), args[1:]...)))
	for _, s := range []string{"1 `", "super `", "^1 `", "1 foo; `", "[1 `", "x foo: (1 `"} {
		end := map[byte]string{'[': "]", 'x': ")"}[s[0]]
		checkWrong(t, "foo: x "+s+strings.Repeat("a: 1 ", 13)+end, "", "", api.ErrSize)
		checkWrong(t, "foo: x "+s+strings.Repeat("a: y ", 13)+end, "", "", api.ErrSize)
	}
	checkWrong(t, "foo super `"+strings.Repeat("a: 1 ", 13)+"; foo", "", "", api.ErrSize)
	checkWrong(t, "foo `super foo; "+strings.Repeat("a: 1 ", 13), "", "", api.ErrScope)
	checkWrong(t, "foo 1 `"+strings.Repeat("a: 1 ", 30), "", "", api.ErrSize)
}

// The first thing that is wrong is told: the method's names, one by one; then Node by Node, a Block's names ahead of its Kids.
func TestFirst(t *testing.T) {
	checkWrong(t, "`a: x b: self c: x y", "", "", api.ErrScope)
	checkWrong(t, "`a: x b: x c: self y", "", "", api.ErrThere)
	checkWrong(t, "`a: self"+strings.Repeat(" a: x", 12), "", "", api.ErrScope)
	checkWrong(t, "`"+pattern(12)+" a: self", "", "", api.ErrSize)
	checkWrong(t, "`"+pattern(12)+" a: p0", "", "", api.ErrSize)
	checkWrong(t, "`foo | nil t t | y", "", "", api.ErrScope)
	checkWrong(t, "`foo | t t nil | y", "", "", api.ErrThere)
	checkWrong(t, "foo `x. y. [:self]", "", "", api.ErrScope)
	checkWrong(t, "foo `[:self | x]", "", "", api.ErrScope)
	checkWrong(t, "foo `[:t :t :self | x]", "", "", api.ErrThere)
	checkWrong(t, "foo `[:self :t :t | x]", "", "", api.ErrScope)
	checkWrong(t, "foo `[:self]. [:t :t]", "", "", api.ErrScope)
	checkWrong(t, "foo [`x] a: [:self]", "", "", api.ErrScope)
	checkWrong(t, "foo `[:t :t] a: x", "", "", api.ErrThere)
	checkWrong(t, "foo `x := y", "", "", api.ErrScope)
	checkWrong(t, "foo `x foo: [:t :t]", "", "", api.ErrScope)
	checkWrong(t, "foo 3 foo: `[:t :t]; bar: x", "", "", api.ErrThere)
	checkWrong(t, "foo 3 foo; bar: `x; baz: [:t :t]", "", "", api.ErrScope)
	checkWrong(t, "foo `x. 1 "+strings.Repeat("a: 1 ", 13), "", "", api.ErrScope)
	checkWrong(t, "foo x + 1 `"+strings.Repeat("a: 1 ", 13), "", "", api.ErrSize)
	checkWrong(t, "foo [:t | | u | [:v | `y]. [:t]]", "", "", api.ErrScope)
}

// Places are those of the tree, whatever they are.
func TestPlaces(t *testing.T) {
	for _, at := range []int{math.MinInt, -1, 0, 7, math.MaxInt} {
		for e, m := range map[api.Errno]tree.Method{
			api.ErrForm:  {Name: "foo:", At: at},
			api.ErrThere: {Name: "foo", Temps: []string{"a", "a"}, At: at},
			api.ErrScope: {Name: "foo", At: 5, Body: []tree.Node{{Kind: tree.Var, Name: "a", At: at}}},
			api.ErrSize:  {Name: "foo", At: 5, Body: []tree.Node{{Kind: tree.Text, Name: strings.Repeat("a", 4097), At: 5}}},
		} {
			if e == api.ErrSize {
				m.At = at
			}
			if c, place, told := Resolve(m, nil, nil); !reflect.DeepEqual(c, Code{}) || place != at || told != e {
				t.Errorf("P13.1: Resolve with %d at %d = %+v, %d, %d", e, at, c, place, told)
			}
		}
	}
}

// What tree.Check refuses: its error, at the method's At, whatever else is wrong.
func TestRefused(t *testing.T) {
	deep := tree.Node{Kind: tree.Var, Name: "x"}
	for range 40 {
		deep = tree.Node{Kind: tree.Assign, Name: "x", Kids: []tree.Node{deep}, At: 3}
	}
	for _, n := range []tree.Node{
		{}, {Kind: -1}, {Kind: 12}, {Kind: tree.Hole}, {Kind: tree.Var}, {Kind: tree.Var, Name: "a b"}, {Kind: tree.Send, Name: "foo"}, {Kind: tree.Send}, {Kind: tree.Cascade}, {Kind: tree.Assign, Name: "a"}, {Kind: tree.Return}, {Kind: tree.Block, Num: 1}, {Kind: tree.Block, Num: -1}, {Kind: tree.Block, Names: []string{""}},
		{Kind: tree.Send, Name: "+", Kids: []tree.Node{{Kind: tree.Hole}, {Kind: tree.Int}}}, {Kind: tree.List, Kids: []tree.Node{{Kind: tree.Var, Name: "a"}}}, {Kind: tree.Cascade, Kids: []tree.Node{{Kind: tree.Var, Name: "a"}, {Kind: tree.Var, Name: "a"}}},
		{Kind: tree.Int, Num: math.MinInt64}, {Kind: tree.Int, Num: -1 << 62}, {Kind: tree.Int, Num: 1 << 62}, {Kind: tree.Text, Name: strings.Repeat("a", 4097)}, {Kind: tree.Symbol, Name: strings.Repeat("a", 65)}, deep,
	} {
		n.At = 3
		m := tree.Method{Name: "foo", Temps: []string{"self", "a", "a"}, Body: []tree.Node{{Kind: tree.Var, Name: "y"}, n}, At: 9}
		want := tree.Check(m)
		if c, at, e := Resolve(m, []string{"a"}, nil); want == api.OK || !reflect.DeepEqual(c, Code{}) || at != 9 || e != want {
			t.Errorf("P13.1: Resolve with %+v = %+v, %d, %d, want %d at 9", n, c, at, e, want)
		}
	}
	for _, m := range []tree.Method{{}, {Name: "foo", Prim: 1000}, {Name: "foo", Prim: -1}, {Name: "foo", Params: []string{"a"}}, {Name: "foo:", Params: []string{"3"}}, {Name: strings.Repeat("a", 65)}} {
		if c, at, e := Resolve(m, nil, nil); !reflect.DeepEqual(c, Code{}) || at != 0 || e != api.ErrForm {
			t.Errorf("P13.1: Resolve(%+v) = %+v, %d, %d", m, c, at, e)
		}
	}
}

// P13.1 by chance: as the model has it.
func TestAsModel(t *testing.T) {
	told := map[api.Errno]int{}
	for seed := range int64(30000) {
		r := &maker{Rand: rand.New(rand.NewSource(seed)), spoils: seed%2 == 0}
		m, fields, globals := r.method()
		want, wantAt, wantE := modelResolve(m, fields, globals)
		got, at, e := Resolve(m, fields, globals)
		if !reflect.DeepEqual(plain(got), plain(want)) || at != wantAt || e != wantE {
			t.Fatalf("P13.1: seed %d: Resolve(%+v, %q, %q) = %+v, %d, %d, want %+v, %d, %d", seed, m, fields, globals, got, at, e, want, wantAt, wantE)
		}
		told[e]++
	}
	for _, e := range []api.Errno{api.OK, api.ErrSize, api.ErrThere, api.ErrScope} {
		if told[e] < 100 {
			t.Errorf("P13.1: only %d methods of which %d is told", told[e], e)
		}
	}
}

// Great methods end, too.
func TestGreat(t *testing.T) {
	m := tree.Method{Name: "foo", Temps: []string{"t"}}
	for range 200000 {
		m.Body = append(m.Body, tree.Node{Kind: tree.Assign, Name: "t", Kids: []tree.Node{{Kind: tree.Var, Name: "A"}}})
	}
	c, at, e := Resolve(m, []string{"b"}, []string{"B", "A"})
	if len(c.Body) != len(m.Body) || at != 0 || e != api.OK || !reflect.DeepEqual(c.Body[199999], setTemp(0, global("A"))) {
		t.Errorf("P13.1: great method: %d statements, %d, %d", len(c.Body), at, e)
	}
	n := tree.Node{Kind: tree.Int}
	for range 65000 {
		n = tree.Node{Kind: tree.Block, Kids: []tree.Node{n}}
	}
	if c, at, e := Resolve(tree.Method{Name: "foo", Body: []tree.Node{n}, At: 4}, nil, nil); !reflect.DeepEqual(c, Code{}) || at != 4 || e != api.ErrDeep {
		t.Errorf("P13.1: deep method: %d at %d", e, at)
	}
	n = tree.Node{Kind: tree.Var, Name: "self"}
	for range 39 {
		n = tree.Node{Kind: tree.Block, Names: []string{"a"}, Kids: []tree.Node{n}}
	}
	if _, at, e := Resolve(tree.Method{Name: "foo", Body: []tree.Node{n}, At: 4}, nil, nil); at != 0 || e != api.ErrThere {
		t.Errorf("P13.1: deep blocks of one name: %d at %d", e, at)
	}
}

// P13.2

func TestPrintedAgain(t *testing.T) {
	count := 0
	for seed := range int64(6000) {
		r := &maker{Rand: rand.New(rand.NewSource(seed))}
		m, fields, globals := r.method()
		want, _, wantE := Resolve(m, fields, globals)
		s, e := tree.Print(m)
		again, _, eAgain := parse.Method(s)
		if e != api.OK || eAgain != api.OK {
			t.Fatalf("P13.2: seed %d: %d, %d", seed, e, eAgain)
		}
		got, _, e := Resolve(again, fields, globals)
		if !reflect.DeepEqual(plain(got), plain(want)) || e != wantE {
			t.Fatalf("P13.2: seed %d: Resolve(%q) = %+v, %d, want %+v, %d", seed, s, got, e, want, wantE)
		}
		if e == api.OK {
			count++
		}
	}
	if count < 1000 {
		t.Errorf("P13.2: only %d methods are right", count)
	}
}

// P13.3

// renamed: with other names for slots, which begin with v here.
func renamed(s string) string {
	if strings.HasPrefix(s, "v") {
		return "other" + s
	}
	return s
}

func renamedAll(list []string) []string {
	var out []string
	for _, s := range list {
		out = append(out, renamed(s))
	}
	return out
}

func renamedNodes(nodes []tree.Node) []tree.Node {
	var out []tree.Node
	for _, n := range nodes {
		if n.Kind == tree.Var || n.Kind == tree.Assign {
			n.Name = renamed(n.Name)
		}
		n.Names, n.Kids = renamedAll(n.Names), renamedNodes(n.Kids)
		out = append(out, n)
	}
	return out
}

func TestOtherNames(t *testing.T) {
	for seed := range int64(6000) {
		r := &maker{Rand: rand.New(rand.NewSource(seed))}
		m, fields, globals := r.method()
		// A global that bears a slot's name is none of those that are renamed.
		globals = slices.DeleteFunc(globals, func(s string) bool { return renamed(s) != s })
		want, wantAt, wantE := Resolve(m, fields, globals)
		m.Params, m.Temps, m.Body = renamedAll(m.Params), renamedAll(m.Temps), renamedNodes(m.Body)
		if got, at, e := Resolve(m, fields, globals); !reflect.DeepEqual(got, want) || at != wantAt || e != wantE {
			t.Fatalf("P13.3: seed %d: %+v, %d, %d, want %+v, %d, %d", seed, got, at, e, want, wantAt, wantE)
		}
	}
	a, _, _ := Resolve(read(t, "foo: x | t | t := x. ^[:i | t := i + a] value: 1"), []string{"a"}, nil)
	b, _, _ := Resolve(read(t, "foo: y | u | u := y. ^[:j | u := j + b] value: 1"), []string{"b"}, nil)
	if !reflect.DeepEqual(a, b) || len(a.Body) != 2 {
		t.Errorf("P13.3: %+v, %+v", a, b)
	}
}

// P13.4

// copied: a Node with all below it; lists have spare room, which holds the same everywhere.
func copied(nodes []tree.Node) []tree.Node {
	out := make([]tree.Node, 0, len(nodes)+3)
	for _, n := range nodes {
		n.Kids, n.Names = copied(n.Kids), copiedTexts(n.Names)
		out = append(out, n)
	}
	for i := range 3 {
		out[:len(nodes)+3][len(nodes)+i] = tree.Node{Kind: 77, Name: "spare"}
	}
	return out
}

func copiedTexts(list []string) []string {
	out := append(make([]string, 0, len(list)+3), list...)
	for i := range 3 {
		out[:len(list)+3][len(list)+i] = "spare"
	}
	return out
}

func copiedMethod(m tree.Method) tree.Method {
	m.Params, m.Temps, m.Body = copiedTexts(m.Params), copiedTexts(m.Temps), copied(m.Body)
	return m
}

// roomy: all of a list, the spare room, too.
func roomy(nodes []tree.Node) []tree.Node {
	out := slices.Clone(nodes[:cap(nodes)])
	for i := range len(nodes) {
		out[i].Kids, out[i].Names = roomy(out[i].Kids), out[i].Names[:cap(out[i].Names)]
	}
	return out
}

func roomyMethod(m tree.Method) tree.Method {
	m.Params, m.Temps, m.Body = m.Params[:cap(m.Params)], m.Temps[:cap(m.Temps)], roomy(m.Body)
	return m
}

// spans: the places in memory of all lists of items, with their spare room.
func spans(t *testing.T, items []Item, seen map[uintptr]bool) {
	t.Helper()
	size := unsafe.Sizeof(Item{})
	base := uintptr(unsafe.Pointer(unsafe.SliceData(items)))
	for i := range cap(items) {
		place := base + uintptr(i)*size
		if seen[place] {
			t.Fatalf("P13.4: two lists share memory")
		}
		seen[place] = true
	}
	for _, i := range items {
		spans(t, i.Kids, seen)
	}
}

func TestMemory(t *testing.T) {
	for seed := range int64(2000) {
		r := &maker{Rand: rand.New(rand.NewSource(seed)), spoils: seed%4 == 0}
		m, fields, globals := r.method()
		m, fields, globals = copiedMethod(m), copiedTexts(fields), copiedTexts(globals)
		before, beforeFields, beforeGlobals := copiedMethod(m), copiedTexts(fields), copiedTexts(globals)
		first, at, e := Resolve(m, fields, globals)
		if !reflect.DeepEqual(roomyMethod(m), roomyMethod(before)) || !slices.Equal(fields[:cap(fields)], beforeFields[:cap(beforeFields)]) || !slices.Equal(globals[:cap(globals)], beforeGlobals[:cap(beforeGlobals)]) {
			t.Fatalf("P13.4: seed %d: what was handed in was changed", seed)
		}
		second, at2, e2 := Resolve(m, fields, globals)
		if !reflect.DeepEqual(first, second) || at != at2 || e != e2 {
			t.Fatalf("P13.4: seed %d: asked again: %+v, then %+v", seed, first, second)
		}
		seen := map[uintptr]bool{}
		spans(t, first.Body, seen)
		spans(t, second.Body, seen)
		clear(fields)
		clear(globals)
		clear(m.Body)
		if !reflect.DeepEqual(first, second) {
			t.Fatalf("P13.4: seed %d: an answer hangs on what was handed in", seed)
		}
	}
}

// Lists that are none are like empty ones.
func TestNone(t *testing.T) {
	m := tree.Method{Name: "foo", Body: []tree.Node{{Kind: tree.Block, Names: []string{}, Kids: []tree.Node{}}}, Params: []string{}, Temps: []string{}}
	a, _, _ := Resolve(m, nil, nil)
	b, _, _ := Resolve(read(t, "foo []"), []string{}, []string{})
	if !reflect.DeepEqual(plain(a), plain(b)) || !reflect.DeepEqual(plain(a), Code{Name: "foo", Body: []Item{block(0, 0, 0)}}) {
		t.Errorf("P13.4: %+v, %+v", a, b)
	}
}
