package sema

import (
	"math/rand"
	"reflect"
	"regexp"
	"slices"
	"strconv"
	"strings"
	"testing"
	"unsafe"

	"foundling/api"
	"foundling/code"
	"foundling/gen"
	"foundling/scope"
)

// kernelFile: all that must be there.
var kernelFile = strings.Join(kernelParts(), "\n")

// P16.1

func TestKernel(t *testing.T) {
	want := []Class{
		{Name: "Object"},
		{Name: "Class", Super: "Object", Own: []string{"superclass", "methods", "format", "name", "vars"}},
		{Name: "Metaclass", Super: "Object", Own: []string{"superclass", "methods", "format", "name", "vars"}},
		{Name: "UndefinedObject", Super: "Object"},
		{Name: "True", Super: "Object"},
		{Name: "False", Super: "Object"},
		{Name: "SmallInteger", Super: "Object"},
		{Name: "String", Super: "Object", Kind: 2},
		{Name: "Symbol", Super: "String", Kind: 2},
		{Name: "Array", Super: "Object", Kind: 1},
		{Name: "Method", Super: "Object", Own: []string{"header", "literals", "bytes", "selector", "holder"}},
		{Name: "Context", Super: "Object", Kind: 1},
		{Name: "Block", Super: "Object", Own: []string{"home", "start", "count"}},
		{Name: "Process", Super: "Object", Own: []string{"context", "priority", "next", "list"}},
		{Name: "Semaphore", Super: "Object", Own: []string{"signals", "first", "last"}},
		{Name: "Message", Super: "Object", Own: []string{"selector", "arguments"}},
	}
	first := Kernel()
	if !reflect.DeepEqual(first, want) {
		t.Fatalf("P16.1: %+v", first)
	}
	for i := range first {
		clear(first[i].Own[:cap(first[i].Own)])
		first[i].Name = "x"
	}
	clear(first)
	if !reflect.DeepEqual(Kernel(), want) {
		t.Errorf("P16.1, P16.5: another time: %+v", Kernel())
	}
}

// P16.2

// marks: what files of these tests bear where a problem is expected.
var marks = regexp.MustCompile("<(Size|Form|End|None|There|Over|Deep|Scope|Cycle|Kind)>")

// unmarked: files without their marks, and the problems that these say.
func unmarked(files []string) (out []string, want []Problem) {
	numbers := map[string]api.Errno{"Size": api.ErrSize, "Form": api.ErrForm, "End": api.ErrEnd, "None": api.ErrNone, "There": api.ErrThere, "Over": api.ErrOver, "Deep": api.ErrDeep, "Scope": api.ErrScope, "Cycle": api.ErrCycle, "Kind": api.ErrKind}
	for n, text := range files {
		gone := 0
		for _, m := range marks.FindAllStringSubmatchIndex(text, -1) {
			want = append(want, Problem{n, m[0] - gone, numbers[text[m[2]:m[3]]]})
			gone += m[1] - m[0]
		}
		out = append(out, marks.ReplaceAllString(text, ""))
	}
	return out, want
}

// lacking: the problems of kernel classes that aren't there.
func lacking(names ...string) []Problem {
	var out []Problem
	for _, name := range names {
		n, _, _, _ := must(name)
		out = append(out, Problem{-1, n, api.ErrNone})
	}
	return out
}

// refused: are just these the problems, and those that marks say? The model has to say so, too.
func refused(t *testing.T, ahead []Problem, files ...string) {
	t.Helper()
	files, marked := unmarked(files)
	want := append(ahead, marked...)
	p, got := Build(files...)
	if !reflect.DeepEqual(got, want) || !reflect.DeepEqual(p, Program{}) {
		t.Errorf("P16.2: %.300q:\n%v, want\n%v", files, got, want)
	}
	same(t, files)
}

// added: the same of the kernel, and files.
func added(t *testing.T, files ...string) {
	t.Helper()
	refused(t, nil, append([]string{kernelFile}, files...)...)
}

// same: an answer and the model's.
func same(t *testing.T, files []string) {
	t.Helper()
	want, wantProblems := modelBuild(files)
	got, problems := Build(files...)
	if !reflect.DeepEqual(problems, wantProblems) {
		t.Fatalf("P16.2: %q:\n%v, want\n%v", files, problems, wantProblems)
	}
	if !reflect.DeepEqual(plain(got), plain(want)) {
		t.Fatalf("P16.2: %q:\n%+v, want\n%+v", files, got, want)
	}
	if (len(problems) == 0) != (len(got.Classes) >= 16) {
		t.Fatalf("P16.3: %q: %d classes, %d problems", files, len(got.Classes), len(problems))
	}
}

// plain: lists of nothing are none.
func plain(p Program) Program {
	var out Program
	for _, c := range p.Classes {
		if len(c.Own) == 0 {
			c.Own = nil
		}
		if len(c.All) == 0 {
			c.All = nil
		}
		out.Classes = append(out.Classes, c)
	}
	return out
}

// built: a program of the kernel and a file; class answers one of its classes.
func built(t *testing.T, files ...string) func(name string) Class {
	t.Helper()
	files = append([]string{kernelFile}, files...)
	p, problems := Build(files...)
	if len(problems) > 0 {
		t.Fatalf("P16.2: %q: %v", files[1:], problems)
	}
	same(t, files)
	return func(name string) Class {
		n := slices.IndexFunc(p.Classes, func(c Class) bool { return c.Name == name })
		if n < 0 {
			t.Fatalf("P16.2: %q isn't there", name)
		}
		return p.Classes[n]
	}
}

func TestNoFiles(t *testing.T) {
	var want []Problem
	for n := range 16 {
		want = append(want, Problem{-1, n, api.ErrNone})
	}
	for _, files := range [][]string{nil, {""}, {"", " \n", "!"}, make([]string, 64)} {
		if p, problems := Build(files...); !reflect.DeepEqual(problems, want) || !reflect.DeepEqual(p, Program{}) {
			t.Errorf("P16.2: %q: %v", files, problems)
		}
	}
}

func TestKernelAlone(t *testing.T) {
	p, problems := Build(kernelFile)
	want := Kernel()
	for i := range want {
		want[i].All = want[i].Own
	}
	slices.SortFunc(want, func(a, b Class) int { return strings.Compare(a.Name, b.Name) })
	if len(problems) > 0 || !reflect.DeepEqual(plain(p).Classes, want) {
		t.Errorf("P16.2: %v, %+v", problems, p)
	}
}

// 64 files are taken; of 65 each is read still.
func TestFileCount(t *testing.T) {
	files := make([]string, 64)
	copy(files, kernelParts())
	files[63], files[15] = files[15], ""
	same(t, files)
	if p, problems := Build(files...); len(p.Classes) != 16 || len(problems) > 0 {
		t.Errorf("P16.2: 64 files: %v", problems)
	}
	refused(t, nil, append(files, "<Size>")...)
	refused(t, nil, append(files, "<Size><End>x")...)
	refused(t, nil, append(files, "<Size> <End>x")...)
	refused(t, nil, append(files, "<Size> ", " <End>x")...)
	refused(t, nil, append(files, "<Size><Size>"+strings.Repeat(" ", api.MaxSource+1))...)
	files[3] = "<Form>x !"
	refused(t, nil, append(files, "<Size>", "!<Form>foo!", " <Form>x !", "")...)
	same(t, make([]string, 200))
}

// Problems of each step; those of the steps behind aren't told.
func TestRead(t *testing.T) {
	added(t, "<Form>Object subclass: #A!", " <Form># !", "<End>x", "A methods! <End>foo")
	added(t, "! <Form>'a' !nil x!", "A methods! x!<End>", "<Size>"+strings.Repeat(" ", api.MaxSource+1))
	added(t, strings.Repeat(" ", api.MaxSource-2)+"!<End>x")
	refused(t, nil, "<End>x", "Object subclass: #Object fields: 'self self'!", "<Form>y !")
}

// one: a class's definition, behind a mark.
func one(mark, name, super, fields string) string {
	return mark + definition(name, super, fields) + "\n"
}

func TestNames(t *testing.T) {
	for _, name := range []string{"self", "super", "nil", "true", "false"} {
		added(t, one("<Scope>", name, "Object", ""))
		added(t, one("<Scope>", "A", "Object", "a "+name+" b"))
	}
	first, second := one("", "A", "Object", "a b"), one("<There>", "A", "Object", "c")
	added(t, first+second)
	added(t, first, " "+second)
	refused(t, nil, first+second, kernelFile, second, "!"+second)
	added(t, one("<There>", "A", "Object", "a b a"))
	added(t, one("<There>", "A", "Object", "a a a"))
	added(t, one("<There>", "Object", "", ""))
	// Of several the least; what is told of other classes stands beside it, what later steps would tell doesn't.
	refused(t, nil, one("<There>", "self", "None", "a a")+one("<Scope>", "B", "", "self"))
	added(t, one("<Scope>", "self", "Object", ""), one("<There>", "self", "Object", ""))
	refused(t, nil, one("", "A", "Object", "a")+one("<Scope>", "B", "B", "nil")+" B methods! x ^ ! !", one("<There>", "A", "A", "true"))
	// Names that are like these, but aren't.
	built(t, one("", "Self", "Object", "Nil selfs True thisContext Self Object"))
}

// many: so many definitions, or names.
func many(from, to int, of func(n int) string) string {
	var out strings.Builder
	for n := from; n < to; n++ {
		out.WriteString(of(n) + " ")
	}
	return out.String()
}

func TestClassCount(t *testing.T) {
	class := func(n int) string { return definition("C"+strconv.Itoa(n), "Object", "") }
	p, problems := Build(kernelFile, many(16, 200, class))
	if len(problems) > 0 || len(p.Classes) != 200 {
		t.Errorf("P16.2: 200 classes: %v, %d", problems, len(p.Classes))
	}
	added(t, many(16, 200, class)+"<Size>"+class(200))
	added(t, many(16, 200, class), "<Size>"+class(200)+"<Size>"+class(201))
	added(t, many(16, 200, class), "<Size>"+class(16), one("<Size>", "x", "None", "self self"))
	added(t, many(16, 199, class), "<There>"+class(16)+"<Size>"+class(17))
	added(t, many(16, 199, class), one("<Scope>", "x", "Object", "self")+"<Size>"+class(17))
}

// replaced: the kernel's definitions, but another one in the stead of that of number n.
func replaced(n int, part string) []string {
	parts := kernelParts()
	parts[n] = part
	return parts
}

// Each class of the kernel that isn't there, or is otherwise.
func TestKernelWrong(t *testing.T) {
	for n, c := range Kernel() {
		without := replaced(n, "")
		for k, part := range without {
			if strings.HasPrefix(part, c.Name+" ") {
				without[k] = "<None>" + part
			}
		}
		refused(t, lacking(c.Name), without...)
		fields := strings.Join(c.Own, " ")
		lists := []string{fields + " more", "more " + fields}
		if len(c.Own) > 0 {
			lists = append(lists, "", strings.Join(c.Own[1:], " "), strings.Join(c.Own[1:], " ")+" "+c.Own[0], strings.ToUpper(fields))
		}
		for _, list := range lists {
			refused(t, nil, replaced(n, one("<Kind>", c.Name, c.Super, list))...)
		}
		for _, up := range []string{"", "Object", "String", "Array", "Message", "Class", "Other"} {
			if up != c.Super {
				refused(t, nil, append(replaced(n, one("<Kind>", c.Name, up, fields)), definition("Other", "Object", ""))...)
			}
		}
		refused(t, nil, replaced(n, one("<None>", c.Name, "Nowhere", fields))...)
		refused(t, nil, replaced(n, one("<None>", c.Name, "Nowhere", "more"))...)
	}
}

func TestSupers(t *testing.T) {
	for _, c := range Kernel() {
		switch c.Name {
		case "Object", "String", "Array", "Process", "Semaphore", "Message":
			if a := built(t, definition("A", c.Name, ""))("A"); a.Super != c.Name || a.Kind != c.Kind || !slices.Equal(a.All, c.Own) || len(a.Own) > 0 {
				t.Errorf("P16.2: below %s: %+v", c.Name, a)
			}
		default:
			added(t, one("<Kind>", "A", c.Name, ""))
			added(t, one("<Kind>", "A", c.Name, "x")+one("", "B", "A", ""))
		}
	}
	added(t, one("<Kind>", "A", "", ""))
	added(t, one("<Kind>", "A", "", "a")+one("", "B", "A", "b"))
	added(t, one("<None>", "A", "None", ""))
	added(t, one("<None>", "A", "super", "")+one("", "B", "A", "b"))
	added(t, one("<None>", "A", "None", "")+one("", "B", "A", "b")+one("<Kind>", "C", "Symbol", ""))
	// Fields for which there is no room.
	added(t, one("<Kind>", "A", "String", "a"))
	added(t, one("<Kind>", "A", "Array", "a"))
	added(t, one("", "A", "Array", "")+one("", "B", "A", "")+one("<Kind>", "C", "B", "c"))
	added(t, one("<Kind>", "A", "Array", "a")+one("", "B", "A", ""))
	built(t, one("", "A", "Process", "a")+one("", "B", "Semaphore", "b")+one("", "C", "Message", "c")+one("", "D", "C", "d"))
	// What later steps would tell.
	added(t, one("<Kind>", "A", "Block", "a"), one("", "B", "B", "")+one("", "C", "Message", "selector")+"C methods! ^! !")
	parts := kernelParts()
	refused(t, lacking("Semaphore", "Message"), append(parts[:14], one("<None>", "A", "Message", "a")+one("", "B", "B", "b b1"))...)
}

// Below a class of the kernel that isn't just so the Kind is that of the table all the same.
func TestKindOfWrong(t *testing.T) {
	const text, symbol, process = 7, 8, 13
	refused(t, nil, append(replaced(process, one("<Kind>", "Process", "Array", "context priority next list")), one("", "A", "Process", "a"))...)
	refused(t, nil, append(replaced(process, one("<Kind>", "Process", "Object", "context")), one("", "A", "Process", "a"))...)
	refused(t, nil, append(replaced(symbol, one("<Kind>", "Symbol", "Object", "")), one("<Kind>", "A", "Symbol", ""), one("<Kind>", "B", "A", "b"))...)
	refused(t, nil, append(replaced(text, one("<Kind>", "String", "Array", "")), one("<Kind>", "A", "String", "a"), one("", "B", "B", "b"), one("<None>", "C", "None", "c"))...)
	refused(t, nil, append(replaced(0, one("<Kind>", "Object", "String", "")), one("", "A", "Object", "a"), one("<Kind>", "B", "String", "b"))...)
	refused(t, nil, append(replaced(process, one("<Kind>", "Process", "A", "context priority next list")), one("", "A", "Process", "a"))...)
}

// kindMark: of a class with fields somewhere below one of the kernel.
func kindMark(c Class) string {
	if c.Kind == 0 {
		return ""
	}
	return "<Kind>"
}

// Each class of the kernel, as it stands where from above another Kind would come.
func TestKindBelowMoved(t *testing.T) {
	for n, c := range Kernel() {
		up := "Array"
		if c.Kind == 1 {
			up = "String"
		}
		below := "<Kind>"
		if strings.Contains(" Object String Array Process Semaphore Message ", " "+c.Name+" ") {
			below = ""
		}
		moved := func(up string) []string {
			return replaced(n, one("<Kind>", c.Name, up, strings.Join(c.Own, " ")))
		}
		refused(t, nil, append(moved(up), one(below, "A", c.Name, "")+one(kindMark(c), "B", "A", "b"))...)
		if c.Kind != 0 && c.Super != "Object" {
			refused(t, nil, append(moved("Object"), one(below, "A", c.Name, "")+one(kindMark(c), "B", "A", "b"))...)
		}
	}
}

// missing: the kernel without a class, whose other classes below it tell so.
func missing(n int, name string) []string {
	gone := replaced(n, "")
	for k, part := range gone {
		if strings.HasPrefix(part, name+" ") {
			gone[k] = "<None>" + part
		}
	}
	return gone
}

// Each class of the kernel missing, by itself and with all others: what stands one below it, with fields or without, lacks its Super, and what has fields further below has the Kind that the table says.
func TestKindBelowMissing(t *testing.T) {
	var all []string
	for _, c := range Kernel() {
		all = append(all, c.Name)
	}
	for n, c := range Kernel() {
		for _, fields := range []string{"", "a", "a b"} {
			mark := kindMark(c)
			for _, below := range []string{
				one("<None>", "A", c.Name, fields),
				one("<None>", "A", c.Name, fields) + one(mark, "B", "A", "x"),
				one("<None>", "A", c.Name, fields) + one("", "B", "A", ""),
				one("<None>", "A", c.Name, fields) + one("", "B", "A", "") + one(mark, "C", "B", "x y"),
				one(mark, "B", "A", "x") + one("<None>", "A", c.Name, fields),
			} {
				refused(t, lacking(c.Name), append(missing(n, c.Name), below)...)
				refused(t, lacking(all...), below)
				refused(t, lacking(all...), below+"t methods! !")
			}
		}
	}
}

func TestCycles(t *testing.T) {
	added(t, one("<Cycle>", "A", "A", ""))
	added(t, one("<Cycle>", "A", "B", "")+one("<Cycle>", "B", "A", ""))
	added(t, one("<Cycle>", "A", "B", "a"), one("<Cycle>", "B", "C", "a")+one("<Cycle>", "C", "D", "a"), one("<Cycle>", "D", "A", "a a1"))
	// What leads to one, too; what doesn't, and what later steps would tell, not.
	added(t, one("<Cycle>", "A", "B", ""), one("<Cycle>", "B", "B", ""), one("<Cycle>", "C", "A", ""), one("<Cycle>", "D", "C", ""), one("", "E", "Object", "x")+one("", "F", "E", "x")+"F methods! foo ^nowhere! !")
	// A long way up is none; the same, but round, is one.
	class := func(n int) string { return definition("C"+strconv.Itoa(n), "C"+strconv.Itoa((n+1)%184), "") }
	built(t, many(0, 183, class)+definition("C183", "Object", ""))
	added(t, many(0, 184, func(n int) string { return "<Cycle>" + class(n) }))
}

// numbered: so many names.
func numbered(name string, count int) string {
	return strings.TrimSpace(many(0, count, func(n int) string { return name + strconv.Itoa(n) }))
}

func TestFields(t *testing.T) {
	up := one("", "A", "Object", numbered("a", 30)) + one("", "B", "A", "")
	c := built(t, up+one("", "C", "B", numbered("c", 30)))("C")
	if len(c.All) != 60 || c.All[0] != "a0" || c.All[30] != "c0" || c.All[59] != "c29" || len(c.Own) != 30 {
		t.Errorf("P16.2: %+v", c)
	}
	built(t, one("", "A", "Object", numbered("a", 60))+one("", "B", "A", ""))
	built(t, one("", "A", "Process", numbered("a", 56)))
	added(t, up+one("<Size>", "C", "B", numbered("c", 31)))
	added(t, one("<Size>", "A", "Object", numbered("a", 61))+one("<Size>", "B", "A", ""))
	added(t, one("<Size>", "A", "Process", numbered("a", 57)))
	// A name from above, also one that no method can name; of both the least.
	added(t, one("", "B", "A", "b")+one("", "A", "Object", "a c")+one("<There>", "C", "B", "x c"))
	added(t, one("<There>", "A", "Process", "priority"))
	added(t, one("<There>", "A", "Message", "a selector"))
	added(t, one("", "A", "Semaphore", "a")+one("<There>", "B", "A", "b first"))
	added(t, one("<Size>", "B", "A", "a0 b"), one("", "A", "Object", numbered("a", 59))+"A methods! x ^ ! !")
	added(t, one("<There>", "C", "B", "a"), one("<There>", "B", "A", "a"), one("", "A", "Object", "a"))
	added(t, one("", "D", "C", "d"), one("", "C", "B", "c"), one("<There>", "B", "A", "a"), one("", "A", "Object", "a"))
	// Classes that don't stand above one another may have the same.
	built(t, one("", "A", "Object", "a b")+one("", "B", "Object", "a b"))
}

// Each Kind as it comes from above.
func TestKinds(t *testing.T) {
	class := built(t, one("", "A", "Array", "")+one("", "B", "A", "")+one("", "S", "String", "")+one("", "T", "S", "")+one("", "M", "Message", "m")+one("", "N", "M", "")+one("", "O", "Object", "")+one("", "P", "Process", "")+one("", "Q", "Semaphore", ""))
	for name, want := range map[string]int{"A": 1, "B": 1, "S": 2, "T": 2, "M": 0, "N": 0, "O": 0, "P": 0, "Q": 0, "Symbol": 2, "String": 2, "Array": 1, "Context": 1, "Object": 0, "Method": 0, "Class": 0} {
		if c := class(name); c.Kind != want {
			t.Errorf("P16.2: %s has the Kind %d, want %d", name, c.Kind, want)
		}
	}
}

// listing: a method's code in a line; "" if it isn't there.
func listing(list []gen.Out, name string) string {
	for _, out := range list {
		if out.Name == name {
			text, _ := code.Text(out.Code)
			return strings.ReplaceAll(strings.TrimSpace(text), "\n", ". ")
		}
	}
	return ""
}

// The fields that a method can name, and their numbers.
func TestVisible(t *testing.T) {
	class := built(t, one("", "A", "Object", "a b")+one("", "B", "A", "c")+one("", "P", "Process", "p")+one("", "Q", "P", "q")+one("", "M", "Message", "m"),
		"A methods! a ^a! b ^b! set a := b! ! B methods! c ^c! a ^a! ! P methods! p ^p! setP p := 1! ! Q methods! p ^p! q ^q! !"+
			"M methods! m ^m! selector ^selector! ! Message methods! selector ^selector! set arguments := selector! !"+
			"Process methods! context: context ^context! ! P methods! list | list | ^list! !"+
			"A class methods! a: a ^a! ! M class methods! selector: selector ^selector! !")
	for name, want := range map[string]string{
		"A a": "0 PushField 0. 2 Return", "A b": "0 PushField 1. 2 Return", "A set": "0 PushField 1. 2 StoreField 0. 4 Pop. 5 PushSelf. 6 Return",
		"B a": "0 PushField 0. 2 Return", "B c": "0 PushField 2. 2 Return",
		"P p": "0 PushField 4. 2 Return", "P setP": "0 PushSmall 1. 2 StoreField 4. 4 Pop. 5 PushSelf. 6 Return", "Q p": "0 PushField 4. 2 Return", "Q q": "0 PushField 5. 2 Return",
		"M m": "0 PushField 2. 2 Return", "M selector": "0 PushField 0. 2 Return", "Message selector": "0 PushField 0. 2 Return", "Message set": "0 PushField 0. 2 StoreField 1. 4 Pop. 5 PushSelf. 6 Return",
		"Process context:": "0 PushTemp 0. 2 Return", "P list": "0 PushTemp 0. 2 Return",
	} {
		holder, method, _ := strings.Cut(name, " ")
		if got := listing(class(holder).Methods, method); got != want {
			t.Errorf("P16.2: %s: %s, want %s", name, got, want)
		}
	}
	if a, m := listing(class("A").Metas, "a:"), listing(class("M").Metas, "selector:"); a != "0 PushTemp 0. 2 Return" || m != a {
		t.Errorf("P16.2: of Metas: %s, %s", a, m)
	}
	for _, c := range Kernel() {
		for _, field := range c.Own {
			if c.Name == "Message" {
				added(t, "Message methods! <There>"+field+": "+field+" ^1! !")
			} else {
				added(t, c.Name+" methods! foo ^<Scope>"+field+"! bar <Scope>"+field+" := 1! !")
			}
			added(t, c.Name+" class methods! foo ^<Scope>"+field+"! bar <Scope>"+field+" := 1! !")
		}
	}
	added(t, one("", "P", "Process", "p")+one("", "Q", "P", "")+one("", "M", "Message", "m")+one("", "S", "Semaphore", "")+one("", "A", "Object", "a"),
		"P methods! foo ^<Scope>context! bar ^<Scope>list! ! Q methods! foo ^p! bar ^<Scope>priority! ! S methods! foo <Scope>signals := 1! !"+
			"P class methods! foo ^<Scope>p! ! M class methods! foo ^<Scope>m! bar ^<Scope>selector! ! A class methods! foo ^<Scope>a! ! P methods! baz ^<Scope>m! !")
}

// Globals are all classes, wherever they are defined.
func TestGlobals(t *testing.T) {
	class := built(t, "Object methods! foo ^Later! ! Object class methods! bar ^Object! !", one("", "Later", "Object", "Object")+"Later methods! foo ^Object! !")
	for _, out := range [][]gen.Out{class("Object").Methods, class("Object").Metas} {
		if len(out) != 1 || listing(out, out[0].Name) != "0 PushLit 0. 2 Return" {
			t.Errorf("P16.2: %+v", out)
		}
	}
	if class("Object").Methods[0].Lits[0].Name != "Later" || listing(class("Later").Methods, "foo") != "0 PushField 0. 2 Return" {
		t.Errorf("P16.2: %+v, %+v", class("Object"), class("Later"))
	}
	added(t, "Object methods! foo ^<Scope>Later! foo Object foo. <Scope>Object := 1! !")
}

// Errors of methods, at their places in the file.
func TestMethodErrors(t *testing.T) {
	big := "big " + strings.Repeat("nil. ", 8192)
	for _, text := range []string{
		"Object methods!\n  foo ^<Form>^! !",
		"Object methods! foo 'a!!b' , '!!' , <Form>^! !",
		"Object methods! foo 'a'. <Form>\x00! !",
		"Object methods! foo '!!' foo: <End>'a!!! !",
		"Object methods! foo ^" + strings.Repeat("(", 40) + "<Deep>1! !",
		"Object methods! foo '!!!!' foo: $!! bar: <Scope>nowhere! !",
		"Object methods! foo: <End>'! !",
		"Object methods! foo '!!'. <Scope>nowhere := 1! !",
		"Object methods!   <Scope>k: self ^1! !",
		"Object methods! foo ^<Scope>super! !",
		"Object methods! foo '!!'. <There>[ :a :a | ]! !",
		"Object methods! <Form>^1! !",
		"Object methods! foo <Over>4611686018427387904! !",
		"Object methods! ok ^1! <Size>" + big + "! !",
		"Object class methods!\t<Size>" + big + " '!!'! !",
		"Nobody methods! <None>foo ^1! !",
		"Nobody class methods! <None>foo ^1! !",
		"Nobody methods! <None>foo ^^ '! <None>foo! !",
		"nil methods! <None>foo! !",
		"Nobody methods! !",
	} {
		if marks.MatchString(text) {
			added(t, text)
		} else {
			built(t, text)
		}
	}
	// All that are wrong, by their places; those of a file stand behind those of the file ahead of it.
	refused(t, nil, "Object methods! a ^<Form>^1! b ^<Scope>nowhere! c ^1! ! ", "Nobody methods! <None>a! <None>b! !", kernelFile, "Object class methods! c ^<Form>! !", "Nobody methods! !")
}

// A method that is there already.
func TestMethodTwice(t *testing.T) {
	added(t, "Object methods! foo ^1! <There>foo ^2! bar! ! Object methods! <There>foo ! <There>foo ^1! !", "Object methods! <There>foo! + x! <There>+ y! at: x put: y! at: x! <There>at: y put: x! !")
	// Elsewhere, or with an error in the first one, it isn't there.
	class := built(t, one("", "A", "Object", ""), "Object methods! foo ^1! ! Object class methods! foo ^2! ! A methods! foo ^3! ! A class methods! foo ^4! !")
	for n, list := range [][]gen.Out{class("Object").Methods, class("Object").Metas, class("A").Methods, class("A").Metas} {
		if got := listing(list, "foo"); got != "0 PushSmall "+strconv.Itoa(n+1)+". 2 Return" {
			t.Errorf("P16.2: foo of list %d: %s", n, got)
		}
	}
	added(t, "Object methods! foo ^<Scope>nowhere! foo ^1! <There>foo ^2! foo ^<Form>! <There>foo ^3! !")
	added(t, "Object methods! foo ^<Form>! foo ^1! !")
	added(t, "Object methods! <Size>foo "+strings.Repeat("nil. ", 8192)+"! foo ^1! !", "Object methods! <There>foo ^2! foo ^<Scope>nowhere! !")
	added(t, "Nobody methods! <None>foo ^1! <None>foo ^1! !")
}

// Methods rise by their names, byte by byte; so do classes.
func TestOrder(t *testing.T) {
	class := built(t, one("", "b", "Object", "")+one("", "Zz", "Object", "")+one("", "Z9", "Object", ""), "b methods! foo! at: x! at! + x! at: x put: y! Foo! - x! at1! | x! at: x foo: y! ! b class methods! z! Z! !")
	var names []string
	for _, out := range append(class("b").Methods, class("b").Metas...) {
		names = append(names, out.Name)
	}
	if got := strings.Join(names, " "); got != "+ - Foo at at1 at: at:foo: at:put: foo | Z z" {
		t.Errorf("P16.2: the methods are %s", got)
	}
	p, _ := Build(kernelFile, one("", "b", "Object", "")+one("", "Zz", "Object", "")+one("", "Z9", "Object", ""))
	names = nil
	for _, c := range p.Classes {
		names = append(names, c.Name)
	}
	if got := strings.Join(names, " "); got != "Array Block Class Context False Message Metaclass Method Object Process Semaphore SmallInteger String Symbol True UndefinedObject Z9 Zz b" {
		t.Errorf("P16.2: the classes are %s", got)
	}
}

// What a method is: as it is compiled in its class, with its primitive and all.
func TestCompiled(t *testing.T) {
	class := built(t, one("", "A", "Object", "a"), "A methods! at: x put: y <primitive: 60> | t | ^a + x + 'it''s!!' foo: #(1 a)! !")
	want := gen.Out{Name: "at:put:", Args: 2, Slots: 3, Prim: 60, Stack: 2, Lits: []scope.Item{{Kind: scope.Symbol, Name: "+"}, {Kind: scope.Text, Name: "it's!"}, {Kind: scope.List, Kids: []scope.Item{{Kind: scope.Int, Num: 1}, {Kind: scope.Symbol, Name: "a"}}}, {Kind: scope.Symbol, Name: "foo:"}},
		Code: []byte{6, 0, 5, 0, 12, 0, 1, 7, 1, 12, 0, 1, 7, 2, 12, 3, 1, 18}}
	if got := class("A").Methods; len(got) != 1 || !reflect.DeepEqual(got[0], want) {
		t.Errorf("P16.2: %+v, want %+v", got, want)
	}
}

// Files by chance, more or less spoilt.
func TestChance(t *testing.T) {
	steps := map[api.Errno]int{}
	for seed := range int64(4000) {
		m := &maker{Rand: rand.New(rand.NewSource(seed)), odd: []int{10, 40, 150, 1000000}[seed%4], isSure: seed%8 < 4}
		files := m.files(m.parts(), 5)
		same(t, files)
		_, problems := Build(files...)
		for _, p := range problems {
			steps[p.Err]++
		}
		if len(problems) == 0 {
			steps[api.OK]++
		}
	}
	for _, e := range []api.Errno{api.OK, api.ErrForm, api.ErrNone, api.ErrThere, api.ErrScope, api.ErrCycle, api.ErrKind} {
		if steps[e] < 20 {
			t.Errorf("the files by chance tell too little: %v", steps)
		}
	}
}

// P16.4

func TestSet(t *testing.T) {
	count := 0
	for seed := range int64(300) {
		m := &maker{Rand: rand.New(rand.NewSource(seed)), odd: 1000000, isSure: true}
		parts := m.parts()
		want, problems := Build(m.files(parts, 1)...)
		if len(problems) > 0 {
			continue
		}
		count++
		for range 5 {
			if got, problems := Build(m.files(parts, 1+m.Intn(64))...); len(problems) > 0 || !reflect.DeepEqual(got, want) {
				t.Fatalf("P16.4: seed %d: %v", seed, problems)
			}
		}
	}
	if count < 250 {
		t.Errorf("of the files by chance only %d are a program", count)
	}
	// Methods of one class, in another order and under other headers.
	a, _ := Build(kernelFile, "Object methods! foo ^1! bar ^2! + x ^3! ! Object class methods! foo ^4! bar! !")
	b, _ := Build("Object class methods! bar! ! Object methods! + x ^3! ! Object methods! bar ^2! !", "Object class methods! foo ^4! ! Object methods! foo ^1! !", kernelFile)
	if len(a.Classes) != 16 || !reflect.DeepEqual(a, b) {
		t.Errorf("P16.4: %+v, %+v", a, b)
	}
}

// Any texts: files that are cut at each byte, or have other bytes.
func TestAny(t *testing.T) {
	text := one("", "A", "Object", "a b") + one("", "B", "Process", "c") + "A methods! foo: x | t | t := a. ^['!!' , #(1 x) foo] value! ! B class methods! bar ^A! !\n"
	for at := range len(text) + 1 {
		same(t, []string{kernelFile, text[:at]})
		same(t, []string{kernelFile, text[at:]})
		same(t, []string{kernelFile, text[:at], text[at:]})
	}
	for at := range len(kernelFile) + 1 {
		same(t, []string{kernelFile[:at], text})
		same(t, []string{text, kernelFile[at:], kernelFile[:at]})
	}
	for seed := range int64(256 * 8) {
		r := rand.New(rand.NewSource(seed))
		b := []byte(text)
		b[r.Intn(len(b))] = byte(seed)
		same(t, []string{string(b), kernelFile})
		for n := range b {
			b[n] = byte(r.Intn(256))
		}
		same(t, []string{kernelFile, string(b)})
	}
}

// P16.5

// memory: the places of all lists of a program, with their spare room.
func memory(t *testing.T, p Program, seen map[uintptr]bool) {
	t.Helper()
	claim(t, p.Classes, seen)
	for _, c := range p.Classes {
		claim(t, c.Own, seen)
		claim(t, c.All, seen)
		claim(t, c.Methods, seen)
		claim(t, c.Metas, seen)
		for _, out := range append(slices.Clone(c.Methods), c.Metas...) {
			claim(t, out.Code, seen)
			items(t, out.Lits, seen)
		}
	}
}

func items(t *testing.T, list []scope.Item, seen map[uintptr]bool) {
	t.Helper()
	claim(t, list, seen)
	for _, i := range list {
		items(t, i.Kids, seen)
	}
}

func claim[T any](t *testing.T, list []T, seen map[uintptr]bool) {
	t.Helper()
	var none T
	size := unsafe.Sizeof(none)
	base := uintptr(unsafe.Pointer(unsafe.SliceData(list)))
	for n := range cap(list) {
		place := base + uintptr(n)*size
		if seen[place] {
			t.Fatalf("P16.5: two lists share memory")
		}
		seen[place] = true
	}
}

func TestMemory(t *testing.T) {
	for seed := range int64(200) {
		m := &maker{Rand: rand.New(rand.NewSource(seed)), odd: 1000000, isSure: seed%2 == 0}
		files := m.files(m.parts(), 5)
		kept := append(slices.Clone(files), "spare")
		files = kept[:len(files)]
		before := slices.Clone(kept)
		first, firstProblems := Build(files...)
		second, secondProblems := Build(files...)
		if !slices.Equal(kept, before) {
			t.Fatalf("P16.5: seed %d: what was handed in was changed", seed)
		}
		if !reflect.DeepEqual(first, second) || !reflect.DeepEqual(firstProblems, secondProblems) {
			t.Fatalf("P16.5: seed %d: asked again it is another one", seed)
		}
		seen := map[uintptr]bool{}
		memory(t, first, seen)
		memory(t, second, seen)
		claim(t, firstProblems, seen)
		claim(t, secondProblems, seen)
	}
	seen := map[uintptr]bool{}
	memory(t, Program{Classes: Kernel()}, seen)
	memory(t, Program{Classes: Kernel()}, seen)
}
