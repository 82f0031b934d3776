package tree

import (
	"math"
	"math/rand"
	"reflect"
	"slices"
	"strings"
	"testing"

	"foundling/api"
	"foundling/lex"
)

// Nodes, shortly.
func num(n int64) Node                   { return Node{Kind: Int, Num: n} }
func text(s string) Node                 { return Node{Kind: Text, Name: s} }
func symbol(s string) Node               { return Node{Kind: Symbol, Name: s} }
func list(kids ...Node) Node             { return Node{Kind: List, Kids: kids} }
func variable(s string) Node             { return Node{Kind: Var, Name: s} }
func assign(s string, kids ...Node) Node { return Node{Kind: Assign, Name: s, Kids: kids} }
func send(s string, kids ...Node) Node   { return Node{Kind: Send, Name: s, Kids: kids} }
func further(s string, kids ...Node) Node {
	return send(s, append([]Node{{Kind: Hole}}, kids...)...)
}
func cascade(kids ...Node) Node { return Node{Kind: Cascade, Kids: kids} }
func block(names string, params int64, kids ...Node) Node {
	return Node{Kind: Block, Names: strings.Fields(names), Num: params, Kids: kids}
}
func answer(kids ...Node) Node { return Node{Kind: Return, Kids: kids} }

// body: a method of these statements.
func body(kids ...Node) Method { return Method{Name: "foo", Body: kids} }

// P10.1

func TestKinds(t *testing.T) {
	for i, kind := range []int{Int, Text, Symbol, List, Var, Assign, Send, Cascade, Block, Return, Hole} {
		if kind != i+1 {
			t.Errorf("P10.1: the kind %d is %d", i+1, kind)
		}
	}
}

// checkCheck: is this what is told of a method, with a text of tokens, or no text of a wrong one?
func checkCheck(t *testing.T, m Method, want api.Errno) {
	t.Helper()
	if got := Check(m); got != want {
		t.Errorf("P10.1: Check(%.300v) = %d, want %d", m, got, want)
	}
	s, e := Print(m)
	if e != want || e != api.OK && s != "" {
		t.Errorf("P10.3: Print(%.300v) = %.90q, %d, want %d", m, s, e, want)
	}
	if _, at, e := lex.All(s); e != api.OK {
		t.Errorf("P10.3: Print(%.300v) = %.90q, in which at %d is %d", m, s, at, e)
	}
}

// samples: a Node of each Kind that may be a value.
func samples() []Node {
	return []Node{
		num(3), text("t"), symbol("s"), list(), list(num(1), list(variable("nil")), symbol("x"), text("y")), variable("v"), assign("v", num(1)), send("foo", num(1)), send("+", num(1), num(2)), send("at:put:", num(1), num(2), num(3)),
		cascade(send("foo", num(1)), further("bar")), cascade(send("+", num(1), num(2)), further("-", num(3)), further("a:b:", num(4), num(5))), block("", 0), block("a b", 0), block("a b", 1), block("a b", 2, num(1), answer(num(2))),
	}
}

// holders: each place in which a value may be asked, with this one there.
func holders(n Node) map[string]Method {
	return map[string]Method{
		"only": body(n), "first": body(n, num(1)), "last": body(num(1), n), "answered": body(answer(n)), "assigned": body(assign("a", n)),
		"receiver of a name": body(send("foo", n)), "receiver of an op": body(send("+", n, num(1))), "receiver of keywords": body(send("a:", n, num(1))),
		"argument of an op": body(send("+", num(1), n)), "argument of keywords": body(send("a:", num(1), n)), "last argument": body(send("a:b:", num(1), num(2), n)),
		"cascade's receiver": body(cascade(send("foo", n), further("bar"))), "cascade's argument": body(cascade(send("+", num(1), n), further("bar"))), "further argument": body(cascade(send("foo", num(1)), further("+", n))),
		"only in a block": body(block("", 0, n)), "first in a block": body(block("", 0, n, num(1))), "last in a block": body(block("a", 1, num(1), n)), "answered in a block": body(block("", 0, answer(n))),
	}
}

func TestValues(t *testing.T) {
	for _, n := range samples() {
		for _, m := range holders(n) {
			checkCheck(t, m, api.OK)
		}
	}
	checkCheck(t, body(), api.OK)
	checkCheck(t, Method{}, api.ErrForm)
}

// What may stand in some places alone: statements that are last ones, cascades, literal arrays.
func TestPlaces(t *testing.T) {
	for where, m := range holders(answer(num(1))) {
		want := api.ErrForm
		switch where {
		case "only", "last", "only in a block", "last in a block":
			want = api.OK
		}
		checkCheck(t, m, want)
	}
	for _, n := range []Node{{Kind: Hole}, further("foo"), further("+", num(1)), {}, {Kind: -1}, {Kind: 12}, {Kind: math.MaxInt}, {Kind: math.MinInt}, cascade(further("foo"), further("bar"))} {
		for _, m := range holders(n) {
			checkCheck(t, m, api.ErrForm)
		}
	}
	for _, n := range append(samples(), answer(num(1)), Node{Kind: Hole}, further("foo"), variable("true"), variable("false"), variable("self"), variable("super"), Node{}) {
		want := api.ErrForm
		if n.Kind >= Int && n.Kind <= List || n.Kind == Var && n.Name != "v" && n.Name != "self" && n.Name != "super" {
			want = api.OK
		}
		checkCheck(t, body(list(n)), want)
		checkCheck(t, body(list(num(1), list(n, num(2)))), want)
		want = api.ErrForm
		if n.Kind == Send && n.Kids[0].Kind != Hole {
			want = api.OK
		}
		checkCheck(t, body(cascade(n, further("bar"))), want)
		want = api.ErrForm
		if n.Kind == Send && n.Kids[0].Kind == Hole {
			want = api.OK
		}
		checkCheck(t, body(cascade(send("foo", num(1)), n)), want)
		checkCheck(t, body(cascade(send("foo", num(1)), further("bar"), n, further("+", num(1)))), want)
	}
	checkCheck(t, body(answer(num(1)), answer(num(2))), api.ErrForm)
	checkCheck(t, body(block("", 0, answer(num(1)), num(2))), api.ErrForm)
	checkCheck(t, body(answer(answer(num(1)))), api.ErrForm)
	checkCheck(t, body(block("", 0, answer(block("", 0, answer(num(1)))), num(2))), api.ErrForm)
	checkCheck(t, body(cascade(send("foo", num(1)), further("foo:", Node{Kind: Hole}))), api.ErrForm)
	checkCheck(t, body(cascade(send("foo", num(1)), further("foo:", further("bar")))), api.ErrForm)
}

// Each Kind with too few Kids, and too many.
func TestKids(t *testing.T) {
	v := num(1)
	for _, n := range []Node{
		{Kind: Int, Kids: []Node{v}}, {Kind: Text, Kids: []Node{v}}, {Kind: Symbol, Kids: []Node{v}}, {Kind: Var, Name: "a", Kids: []Node{v}}, assign("a"), assign("a", v, v), answer(), answer(v, v),
		send("foo"), send("foo", v, v), send("+"), send("+", v), send("+", v, v, v), send("a:"), send("a:", v), send("a:", v, v, v), send("a:b:", v, v), send("a:b:", v, v, v, v), send("|", v),
		cascade(), cascade(send("foo", v)), cascade(send("foo", v), send("bar", v)), cascade(send("foo", v), further("bar", v)), cascade(send("foo"), further("bar")), cascade(send("foo", v), send("bar")), cascade(send("+", v), further("bar")),
		cascade(send("foo", v), further("+")), cascade(send("foo", v), send("bar", Node{Kind: Hole, Kids: []Node{v}})),
	} {
		checkCheck(t, body(n), api.ErrForm)
		checkCheck(t, body(v, block("", 0, n)), api.ErrForm)
	}
}

// Each Kind with each field that it doesn't use; At counts for nothing.
func TestFields(t *testing.T) {
	uses := map[int]string{Int: "Num", Text: "Name", Symbol: "Name", List: "Kids", Var: "Name", Assign: "Name Kids", Send: "Name Kids", Cascade: "Kids", Block: "Num Kids Names", Return: "Kids", Hole: ""}
	for _, n := range append(samples(), answer(num(1)), Node{Kind: Hole}) {
		put := func(n Node) Method {
			if n.Kind == Hole {
				return body(cascade(send("foo", num(1)), send("bar", n)))
			}
			return body(n)
		}
		checkCheck(t, put(n), api.OK)
		for _, field := range []string{"Name", "Num", "Kids", "Names"} {
			x := n
			switch field {
			case "Name":
				x.Name = "x"
			case "Num":
				x.Num = -1
			case "Kids":
				x.Kids = []Node{num(1)}
			case "Names":
				x.Names = []string{"x"}
			}
			if !slices.Contains(strings.Fields(uses[n.Kind]), field) {
				checkCheck(t, put(x), api.ErrForm)
			}
		}
		n.At = -5
		checkCheck(t, put(n), api.OK)
		n.Kids, n.Names = append([]Node{}, n.Kids...), append([]string{}, n.Names...)
		checkCheck(t, put(n), api.OK)
	}
}

// Names, of variables and of messages, primitives, and what a Block's Num may be.
func TestNames(t *testing.T) {
	long := strings.Repeat("n", 64)
	for name, want := range map[string]api.Errno{
		"a": 0, "Z9": 0, "self": 0, "nil": 0, "super": 0, "true": 0, long: 0, long + "n": api.ErrForm, "": api.ErrForm, "1": api.ErrForm, "a_b": api.ErrForm, "a b": api.ErrForm, "a:": api.ErrForm, "+": api.ErrForm, "|": api.ErrForm, "é": api.ErrForm, " a": api.ErrForm,
	} {
		checkCheck(t, body(variable(name)), want)
		checkCheck(t, body(assign(name, num(1))), want)
		checkCheck(t, Method{Name: "foo", Temps: []string{"a", name}}, want)
		checkCheck(t, Method{Name: "a:b:", Params: []string{"a", name}}, want)
		b := Node{Kind: Block, Names: []string{"a", name}}
		for b.Num = range 3 {
			checkCheck(t, body(b), want)
		}
	}
	for num, want := range map[int64]api.Errno{-1: api.ErrForm, 0: 0, 1: 0, 2: 0, 3: api.ErrForm, math.MaxInt64: api.ErrForm, math.MinInt64: api.ErrForm} {
		checkCheck(t, body(block("a b", num)), want)
	}
	checkCheck(t, body(block("", 1)), api.ErrForm)
	for prim, want := range map[int]api.Errno{-1: api.ErrForm, 0: 0, 1: 0, 999: 0, 1000: api.ErrForm, math.MaxInt: api.ErrForm, math.MinInt: api.ErrForm} {
		checkCheck(t, Method{Name: "foo", Prim: prim}, want)
	}
	arities := map[string]int{
		"foo": 0, "+": 1, "|": 1, "a:": 1, "a:b:": 2, "": -1, "a:b": -1, "+-": -1, ":": -1, "1": -1, "foo ": -1,
		long: 0, long + "n": -1, long[1:] + ":": 1, long + ":": -1, long[3:] + ":b:": 2, long[2:] + ":b:": -1, "a:" + long[3:] + ":": 2, "a:" + long[2:] + ":": -1, "a:b:" + long + ":": -1,
	}
	for name, arity := range arities {
		for count := range 4 {
			want := api.ErrForm
			if count == arity {
				want = api.OK
			}
			checkCheck(t, Method{Name: name, Params: []string{"x", "y", "z"}[:count]}, want)
			kids := []Node{num(1), num(2), num(3), num(4)}[:count+1]
			checkCheck(t, body(send(name, kids...)), want)
			checkCheck(t, body(cascade(send(name, kids...), further("bar"))), want)
			checkCheck(t, body(cascade(send("foo", num(1)), further(name, kids[1:]...))), want)
		}
	}
}

// nested: so many Nodes within one another, by what goes around.
func nested(count int, around func(n Node) Node) Node {
	n := num(1)
	for range count - 1 {
		n = around(n)
	}
	return n
}

func TestLimits(t *testing.T) {
	checkCheck(t, body(text(strings.Repeat("'", 4096)), symbol(strings.Repeat("'", 64)), num(api.MaxInt), num(api.MinInt+1)), api.OK)
	wrong := []struct {
		n Node
		e api.Errno
	}{
		{text(strings.Repeat("x", 4097)), api.ErrSize}, {symbol(strings.Repeat("x", 65)), api.ErrSize}, {num(api.MaxInt + 1), api.ErrOver}, {num(api.MinInt), api.ErrOver}, {num(api.MinInt - 1), api.ErrOver}, {num(math.MaxInt64), api.ErrOver}, {num(math.MinInt64), api.ErrOver},
		{nested(41, func(n Node) Node { return assign("a", n) }), api.ErrDeep}, {Node{Kind: Hole}, api.ErrForm},
	}
	for _, a := range wrong {
		checkCheck(t, body(a.n), a.e)
		if a.n.Kind <= Symbol {
			checkCheck(t, body(list(num(1), list(a.n))), a.e)
			checkCheck(t, body(block("", 0, send("foo", a.n))), a.e)
		}
		// Several at once: ErrForm, else the least.
		for _, b := range wrong {
			want := min(a.e, b.e)
			if a.e == api.ErrForm || b.e == api.ErrForm {
				want = api.ErrForm
			}
			checkCheck(t, body(a.n, b.n), want)
		}
	}
	for _, around := range []func(n Node) Node{
		func(n Node) Node { return assign("a", n) }, func(n Node) Node { return send("foo", n) }, func(n Node) Node { return send("+", num(1), n) }, func(n Node) Node { return list(num(1), n, num(2)) },
		func(n Node) Node { return block("", 0, num(1), n) }, func(n Node) Node { return block("a", 1, n, num(2)) },
	} {
		checkCheck(t, body(num(1), nested(40, around), num(1)), api.OK)
		checkCheck(t, body(num(1), nested(41, around), num(1)), api.ErrDeep)
	}
	checkCheck(t, body(answer(nested(39, func(n Node) Node { return send("foo", n) }))), api.OK)
	checkCheck(t, body(answer(nested(40, func(n Node) Node { return send("foo", n) }))), api.ErrDeep)
	checkCheck(t, body(nested(39, func(n Node) Node { return cascade(send("foo", n), further("bar")) })), api.ErrDeep)
	checkCheck(t, body(nested(20, func(n Node) Node { return cascade(send("foo", n), further("bar")) })), api.OK)
}

// Methods, and methods of which something was changed by chance, as the model has it.
func TestCheckModel(t *testing.T) {
	r := rand.New(rand.NewSource(10))
	told := map[api.Errno]int{}
	for range 60000 {
		m := someMethod(r)
		checkCheck(t, m, modelCheck(m))
		for range r.Intn(3) {
			lists := places(&m)
			if at := *lists[r.Intn(len(lists))]; len(at) > 0 {
				spoil(r, &at[r.Intn(len(at))])
			}
		}
		switch r.Intn(40) {
		case 0:
			m.Name = pick(r, "", "n") + someMessage(r)
		case 1:
			m.Params = someNames(r)
		case 2:
			m.Temps = append(m.Temps, pick(r, "a", "1", "+", ""))
		case 3:
			m.Prim = r.Intn(2002) - 1
		case 4:
			m.At = -9
		}
		want := modelCheck(m)
		told[want]++
		checkCheck(t, m, want)
		if t.Failed() {
			return
		}
	}
	for _, e := range []api.Errno{api.OK, api.ErrForm, api.ErrSize, api.ErrOver, api.ErrDeep} {
		if told[e] < 50 {
			t.Errorf("P10.1: chance has told %d only %d times", e, told[e])
		}
	}
}

// P10.2

func TestCounts(t *testing.T) {
	for _, c := range []struct {
		m            Method
		depth, count int
	}{
		{Method{}, 0, 0}, {body(), 0, 0}, {body(num(1)), 1, 1}, {body(num(1), num(2)), 1, 2}, {body(answer(send("+", variable("x"), num(1)))), 3, 4}, {body(num(1), assign("a", num(2)), num(3)), 2, 4},
		{body(cascade(send("foo", variable("x")), further("bar"), further("+", num(1)))), 3, 8}, {body(block("a b", 1)), 1, 1}, {body(list(list(), list(list()))), 3, 4},
		{body(Node{Kids: []Node{{}, {Kids: []Node{{}}}}}), 3, 4}, {Method{Name: "+", Params: []string{"x"}, Temps: []string{"y"}, Prim: 5}, 0, 0},
	} {
		if d, n := Depth(c.m), Count(c.m); d != c.depth || n != c.count {
			t.Errorf("P10.2: of %v: Depth %d, Count %d, want %d, %d", c.m, d, n, c.depth, c.count)
		}
	}
}

// checkWalk: in order, to the end or to each place at which it is stopped.
func checkWalk(t *testing.T, m Method) {
	t.Helper()
	want, depths := flat(m)
	for stop := 1; stop <= len(want)+1; stop++ {
		var got []Node
		went := Walk(m, func(n Node) bool {
			got = append(got, n)
			return len(got) != stop
		})
		seen := min(stop, len(want))
		if went != (stop > len(want)) || len(got) != seen || seen > 0 && !reflect.DeepEqual(got, want[:seen]) {
			t.Fatalf("P10.2: Walk(%v), stopped at %d: %v, %d seen, want %v", m, stop, went, len(got), want[:seen])
		}
	}
	if !Walk(m, nil) {
		t.Errorf("P10.2: Walk without a see: false")
	}
	if got := Count(m); got != len(want) {
		t.Errorf("P10.2: Count(%v) = %d, want %d", m, got, len(want))
	}
	if got, most := Depth(m), slices.Max(append(depths, 0)); got != most {
		t.Errorf("P10.2: Depth(%v) = %d, want %d", m, got, most)
	}
}

// Depth, Count and Walk of any trees, those that are no methods, too.
func TestWalk(t *testing.T) {
	r := rand.New(rand.NewSource(102))
	for range 1000 {
		m := someMethod(r)
		for range r.Intn(3) {
			lists := places(&m)
			if at := *lists[r.Intn(len(lists))]; len(at) > 0 {
				spoil(r, &at[r.Intn(len(at))])
			}
		}
		checkWalk(t, m)
	}
	checkWalk(t, Method{})
	var kinds []int
	Walk(body(answer(cascade(send("+", variable("x"), num(1)), further("foo"))), num(2)), func(n Node) bool {
		kinds = append(kinds, n.Kind)
		return true
	})
	if !slices.Equal(kinds, []int{Return, Cascade, Send, Var, Int, Send, Hole, Int}) {
		t.Errorf("P10.2: Walk's order: %v", kinds)
	}
}

// checkSame: both ways round.
func checkSame(t *testing.T, what string, a, b Method, want bool) {
	t.Helper()
	if Same(a, b) != want || Same(b, a) != want {
		t.Errorf("P10.2: Same, %s: %v and %v: not %v", what, a, b, want)
	}
}

func TestSame(t *testing.T) {
	base := func() Method {
		return Method{Name: "a:b:", Params: []string{"p", "q"}, Temps: []string{"t"}, Prim: 3, At: 7, Body: []Node{assign("t", num(1)), answer(block("i j", 1, send("+", variable("i"), symbol("s"))))}}
	}
	inner := func(m *Method) *Node { return &m.Body[1].Kids[0].Kids[0].Kids[1] }
	for what, do := range map[string]func(m *Method){
		"Name": func(m *Method) { m.Name = "a:c:" }, "Params": func(m *Method) { m.Params[1] = "r" }, "fewer Params": func(m *Method) { m.Params = m.Params[:1] }, "no Params": func(m *Method) { m.Params = nil },
		"Temps": func(m *Method) { m.Temps[0] = "u" }, "more Temps": func(m *Method) { m.Temps = append(m.Temps, "u") }, "no Temps": func(m *Method) { m.Temps = nil }, "a Param as a Temp": func(m *Method) { m.Params, m.Temps = m.Params[:1], []string{"q", "t"} },
		"Prim": func(m *Method) { m.Prim = 4 }, "no Body": func(m *Method) { m.Body = nil }, "a Node less": func(m *Method) { m.Body = m.Body[:1] }, "a Node more": func(m *Method) { m.Body = append(m.Body, num(1)) }, "another order": func(m *Method) { m.Body[0], m.Body[1] = m.Body[1], m.Body[0] },
		"a Kind": func(m *Method) { inner(m).Kind = Text }, "a Name": func(m *Method) { inner(m).Name = "r" }, "a Num": func(m *Method) { inner(m).Num = 1 }, "Kids": func(m *Method) { inner(m).Kids = []Node{{}} }, "Names": func(m *Method) { inner(m).Names = []string{""} },
		"a Block's Num": func(m *Method) { m.Body[1].Kids[0].Num = 2 }, "a Block's Names": func(m *Method) { m.Body[1].Kids[0].Names[1] = "k" }, "a Send's Name": func(m *Method) { m.Body[1].Kids[0].Kids[0].Name = "-" },
	} {
		m := base()
		do(&m)
		checkSame(t, what, base(), m, false)
		checkSame(t, what, m, copyOf(m), true)
	}
	m := base()
	m.At, m.Body[0].At, m.Body[0].Kids[0].At, inner(&m).At = -1, 9, 8, 7
	checkSame(t, "At", base(), m, true)
	checkSame(t, "nothing", Method{}, Method{}, true)
	checkSame(t, "empty lists", Method{}, Method{Params: []string{}, Temps: []string{}, Body: []Node{}}, true)
	checkSame(t, "empty lists", body(Node{Kids: []Node{}, Names: []string{}}), body(Node{}), true)
	checkSame(t, "an empty name", Method{Temps: []string{""}}, Method{}, false)
}

func TestSameModel(t *testing.T) {
	r := rand.New(rand.NewSource(103))
	for range 20000 {
		a := someMethod(r)
		b := copyOf(a)
		for range r.Intn(2) {
			lists := places(&b)
			if at := *lists[r.Intn(len(lists))]; len(at) > 0 {
				spoil(r, &at[r.Intn(len(at))])
			}
		}
		checkSame(t, "by chance", a, b, reflect.DeepEqual(bare(a), bare(b)))
	}
}

// bare: without At, and with lists that are all made.
func bare(m Method) Method {
	m = copyOf(m)
	m.At = 0
	m.Params, m.Temps = append([]string{}, m.Params...), append([]string{}, m.Temps...)
	lists := places(&m)
	for _, list := range lists {
		*list = append([]Node{}, *list...)
	}
	for _, list := range places(&m) {
		for i := range *list {
			n := &(*list)[i]
			n.At, n.Names = 0, append([]string{}, n.Names...)
			if n.Kids == nil {
				n.Kids = []Node{}
			}
		}
	}
	return m
}

// P10.3

// checkPrint: is this a method's text?
func checkPrint(t *testing.T, m Method, want string) {
	t.Helper()
	if got, e := Print(m); got != want || e != api.OK {
		t.Errorf("P10.3: Print(%v) = %q, %d, want %q", m, got, e, want)
	}
}

func TestPrint(t *testing.T) {
	x := variable("x")
	checkPrint(t, Method{Name: "foo:", Params: []string{"x"}, Body: []Node{answer(send("+", x, num(1)))}}, "foo: x ^x + 1")
	for want, m := range map[string]Method{
		"foo": {Name: "foo"}, "- y": {Name: "-", Params: []string{"y"}}, "| y": {Name: "|", Params: []string{"y"}}, "a: x": {Name: "a:", Params: []string{"x"}}, "a: x b1: y c: z": {Name: "a:b1:c:", Params: []string{"x", "y", "z"}},
		"foo <primitive: 1>": {Name: "foo", Prim: 1}, "+ x <primitive: 999>": {Name: "+", Params: []string{"x"}, Prim: 999}, "foo | a |": {Name: "foo", Temps: []string{"a"}}, "a: x | b c |": {Name: "a:", Params: []string{"x"}, Temps: []string{"b", "c"}},
		"foo <primitive: 60> | a b | a": {Name: "foo", Prim: 60, Temps: []string{"a", "b"}, Body: []Node{variable("a")}}, "foo <primitive: 7> ^1": {Name: "foo", Prim: 7, Body: []Node{answer(num(1))}}, "foo | a | ^a": {Name: "foo", Temps: []string{"a"}, Body: []Node{answer(variable("a"))}},
		"foo 1. 2. ^3": body(num(1), num(2), answer(num(3))), "foo 1": body(num(1)),
	} {
		checkPrint(t, m, want)
	}
}

// What a statement is written as, behind "foo ".
func TestPrintNodes(t *testing.T) {
	x := variable("x")
	for want, n := range map[string]Node{
		"0": num(0), "-1": num(-1), "4611686018427387903": num(api.MaxInt), "-4611686018427387903": num(-api.MaxInt), "''": text(""), "'it''s'": text("it's"), "'#x'": text("#x"),
		"#x": symbol("x"), "#a:b:": symbol("a:b:"), "#'a:b'": symbol("a:b"), "#+": symbol("+"), "#|": symbol("|"), "#''": symbol(""), "#'it''s'": symbol("it's"), "#true": symbol("true"), "#nil": symbol("nil"),
		"#()": list(), "#(1 -2)": list(num(1), num(-2)), "#('a' 'it''s')": list(text("a"), text("it's")), "#(() (1 ()) 2)": list(list(), list(num(1), list()), num(2)), "#(((3)))": list(list(list(num(3)))),
		"#(a a:b: + - self super)": list(symbol("a"), symbol("a:b:"), symbol("+"), symbol("-"), symbol("self"), symbol("super")), "#(#'a b' #'' #'a:b' #| #true #false #nil)": list(symbol("a b"), symbol(""), symbol("a:b"), symbol("|"), symbol("true"), symbol("false"), symbol("nil")),
		"#(true false nil)": list(variable("true"), variable("false"), variable("nil")), "#(- 3 (-> #|))": list(symbol("-"), num(3), list(symbol("->"), symbol("|"))), "#(at: put: at:put:)": list(symbol("at:"), symbol("put:"), symbol("at:put:")),
		"x": x, "self": variable("self"), "super foo": send("foo", variable("super")), "x := 3": assign("x", num(3)), "x := y := x": assign("x", assign("y", x)), "^x": answer(x), "^x := 1": answer(assign("x", num(1))), "x := [^1]": assign("x", block("", 0, answer(num(1)))),
		"[]": block("", 0), "[x]": block("", 0, x), "[:a | ]": block("a", 1), "[:a :b | ]": block("a b", 2), "[:a | x. ^a]": block("a", 1, x, answer(variable("a"))), "[| a | ]": block("a", 0), "[| a b | x]": block("a b", 0, x), "[:a | | b | x. 1]": block("a b", 1, x, num(1)), "[:a :b | | c d | ]": block("a b c d", 2), "[[:a | [x]]]": block("", 0, block("a", 1, block("", 0, x))),
		"x foo": send("foo", x), "x + 1": send("+", x, num(1)), "x | 1": send("|", x, num(1)), "x - -1": send("-", x, num(-1)), "-1 - 1": send("-", num(-1), num(1)), "x a: 1": send("a:", x, num(1)), "x a: 1 b: 'c' d: #d": send("a:b:d:", x, num(1), text("c"), symbol("d")),
		"x foo; bar": cascade(send("foo", x), further("bar")), "x + 1; - 2; a: 3 b: 4; bar": cascade(send("+", x, num(1)), further("-", num(2)), further("a:b:", num(3), num(4)), further("bar")), "x a: 1 b: 2; foo": cascade(send("a:b:", x, num(1), num(2)), further("foo")),
		"x + y foo; bar": cascade(send("+", x, send("foo", variable("y"))), further("bar")), "(x a: 1) foo; bar": cascade(send("foo", send("a:", x, num(1))), further("bar")), "(x foo; bar) foo; bar": cascade(send("foo", cascade(send("foo", x), further("bar"))), further("bar")), "x foo; + (1 + 2); a: (1 b: 2)": cascade(send("foo", x), further("+", send("+", num(1), num(2))), further("a:", send("b:", num(1), num(2)))),
		"(x + 1) foo; bar": cascade(send("foo", send("+", x, num(1))), further("bar")), "x + 1 - 2; bar": cascade(send("-", send("+", x, num(1)), num(2)), further("bar")),
		"x := y foo; bar": assign("x", cascade(send("foo", variable("y")), further("bar"))), "^x foo; bar": answer(cascade(send("foo", x), further("bar"))), "x := y a: 1": assign("x", send("a:", variable("y"), num(1))), "[x a: 1]": block("", 0, send("a:", x, num(1))), "[:i | i foo; bar]": block("i", 1, cascade(send("foo", variable("i")), further("bar"))),
		"x foo bar baz": send("baz", send("bar", send("foo", x))), "x + 1 + 2 foo": send("+", send("+", x, num(1)), send("foo", num(2))), "#(1) foo: []": send("foo:", list(num(1)), block("", 0)),
	} {
		checkPrint(t, body(n), "foo "+want)
	}
}

// Each receiver and each argument that is to stand in brackets, and each that isn't.
func TestBrackets(t *testing.T) {
	y := variable("y")
	named, opped, worded := send("f", y), send("*", y, num(2)), send("k:", y, num(2))
	assigned, cascaded := assign("y", num(2)), cascade(send("f", y), further("g"))
	texts := map[string]Node{"y f": named, "y * 2": opped, "y k: 2": worded, "y := 2": assigned, "y f; g": cascaded, "y": y, "-2": num(-2), "'t'": text("t"), "#s": symbol("s"), "#(1)": list(num(1)), "[y]": block("", 0, y)}
	// In which of the places below (receivers and arguments) brackets stand.
	always := map[string]bool{"y k: 2": true, "y := 2": true, "y f; g": true}
	for s, n := range texts {
		in := func(tight bool) string {
			if always[s] || tight && s == "y * 2" {
				return "(" + s + ")"
			}
			return s
		}
		checkPrint(t, body(send("foo", n)), "foo "+in(true)+" foo")
		checkPrint(t, body(send("+", n, num(1))), "foo "+in(false)+" + 1")
		checkPrint(t, body(send("a:b:", n, num(1), num(2))), "foo "+in(false)+" a: 1 b: 2")
		checkPrint(t, body(send("+", num(1), n)), "foo 1 + "+in(true))
		checkPrint(t, body(send("|", n, n)), "foo "+in(false)+" | "+in(true))
		checkPrint(t, body(send("a:", num(1), n)), "foo 1 a: "+in(false))
		checkPrint(t, body(send("a:b:", num(1), n, n)), "foo 1 a: "+in(false)+" b: "+in(false))
		checkPrint(t, body(cascade(send("foo", n), further("+", n), further("a:b:", n, n))), "foo "+in(true)+" foo; + "+in(true)+"; a: "+in(false)+" b: "+in(false))
		checkPrint(t, body(cascade(send("+", n, n), further("bar"))), "foo "+in(false)+" + "+in(true)+"; bar")
		checkPrint(t, body(cascade(send("a:", n, n), further("bar"))), "foo "+in(false)+" a: "+in(false)+"; bar")
		checkPrint(t, body(assign("x", n), block("", 0, n, n), answer(n)), "foo x := "+s+". ["+s+". "+s+"]. ^"+s)
	}
}

// Texts are made of tokens, brackets come in pairs, and other methods have other texts.
func TestPrintModel(t *testing.T) {
	r := rand.New(rand.NewSource(104))
	texts := map[string]Method{}
	for range 20000 {
		m := someMethod(r)
		s, e := Print(m)
		if modelCheck(m) != api.OK {
			continue
		}
		list, at, eLex := lex.All(s)
		if e != api.OK || eLex != api.OK {
			t.Fatalf("P10.3: Print(%v) = %q, %d, in which at %d is %d", m, s, e, at, eLex)
		}
		open := map[int]int{}
		for _, x := range list {
			open[x.Kind]++
		}
		if open[lex.Open]+open[lex.ArrayOpen] != open[lex.Close] || open[lex.BlockOpen] != open[lex.BlockClose] {
			t.Fatalf("P10.3: Print(%v) = %q: brackets", m, s)
		}
		if other, there := texts[s]; there && !Same(m, other) {
			t.Fatalf("P10.3: %v and %v are both %q", m, other, s)
		}
		texts[s] = m
	}
}

// P10.4

// No call changes what it is handed, its spare room neither.
func TestMemory(t *testing.T) {
	r := rand.New(rand.NewSource(105))
	for range 3000 {
		m := copyOf(someMethod(r))
		before := whole(m.Body)
		params, temps := append([]string{}, m.Params[:cap(m.Params)]...), append([]string{}, m.Temps[:cap(m.Temps)]...)
		Check(m)
		Depth(m)
		Count(m)
		first, _ := Print(m)
		Same(m, m)
		Walk(m, func(Node) bool { return true })
		second, _ := Print(m)
		if first != second || !reflect.DeepEqual(before, whole(m.Body)) || !slices.Equal(params, m.Params[:cap(m.Params)]) || !slices.Equal(temps, m.Temps[:cap(m.Temps)]) {
			t.Fatalf("P10.4: a call has changed %v", m)
		}
	}
}

// Parts very deep within one another, and very many: each call ends.
func TestGreat(t *testing.T) {
	for _, around := range []func(n Node) Node{
		func(n Node) Node { return assign("a", n) }, func(n Node) Node { return list(n) }, func(n Node) Node { return block("", 0, n) }, func(n Node) Node { return send("+", num(1), n) },
	} {
		m := body(nested(1<<16, around))
		checkGreat(t, m, 1<<16, api.ErrDeep)
		m.Body[0].Kids[len(m.Body[0].Kids)-1].Num = 1
		checkGreat(t, m, 1<<16, api.ErrForm)
	}
	many := slices.Repeat([]Node{num(1)}, 1<<16+1)
	checkGreat(t, body(many...), 1, api.OK)
	checkGreat(t, body(list(many...)), 2, api.OK)
	checkGreat(t, body(send(strings.Repeat("a:", 32), many[:33]...)), 2, api.OK)
	checkGreat(t, body(send(strings.Repeat("a:", 1<<16), many...)), 2, api.ErrForm)
	checkGreat(t, body(send(strings.Repeat("a", 1<<20), num(1))), 2, api.ErrForm)
}

func checkGreat(t *testing.T, m Method, depth int, e api.Errno) {
	t.Helper()
	_, ePrint := Print(m)
	if Depth(m) != depth || Count(m) < depth || Check(m) != e || ePrint != e || !Same(m, m) || !Walk(m, func(Node) bool { return true }) {
		t.Errorf("P10.2: of %d Nodes within one another: %d, %d, %d", depth, Depth(m), Count(m), Check(m))
	}
}
