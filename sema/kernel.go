package sema

import (
	"slices"
	"strings"
)

// inherited: stands for the Kind of what is above.
const inherited = -1

// row: of the kernel's table.
type row struct {
	name, super, fields string
	kind                int
}

// kernel: in the order in which memory knows these classes.
var kernel = [...]row{
	{name: "Object"},
	{name: "Class", super: "Object", fields: "superclass methods format name vars", kind: inherited},
	{name: "Metaclass", super: "Object", fields: "superclass methods format name vars", kind: inherited},
	{name: "UndefinedObject", super: "Object", kind: inherited},
	{name: "True", super: "Object", kind: inherited},
	{name: "False", super: "Object", kind: inherited},
	{name: "SmallInteger", super: "Object", kind: inherited},
	{name: "String", super: "Object", kind: 2},
	{name: "Symbol", super: "String", kind: inherited},
	{name: "Array", super: "Object", kind: 1},
	{name: "Method", super: "Object", fields: "header literals bytes selector holder", kind: inherited},
	{name: "Context", super: "Object", kind: 1},
	{name: "Block", super: "Object", fields: "home start count", kind: inherited},
	{name: "Process", super: "Object", fields: "context priority next list", kind: inherited},
	{name: "Semaphore", super: "Object", fields: "signals first last", kind: inherited},
	{name: "Message", super: "Object", fields: "selector arguments", kind: inherited},
}

// kernelRow: that of a kernel class.
func kernelRow(name string) (r row, isKernel bool) {
	for _, r := range kernel {
		if r.name == name {
			return r, true
		}
	}
	return row{}, false
}

// kindAsItComes: its own, or that of the next row up that has one.
func (r row) kindAsItComes() int {
	for r.kind == inherited {
		r, _ = kernelRow(r.super)
	}
	return r.kind
}

// own: its fields.
func (r row) own() []string { return append([]string(nil), strings.Fields(r.fields)...) }

// isJust: is a class just as it must be?
func (r row) isJust(c Class) bool { return c.Super == r.super && slices.Equal(c.Own, r.own()) }

// isOpen: may other classes stand below this one? The machine knows the words of the others by heart.
func (r row) isOpen() bool {
	switch r.name {
	case "Object", "String", "Array", "Process", "Semaphore", "Message":
		return true
	}
	return false
}

// isHidden: are its fields the machine's alone?
func (r row) isHidden() bool { return r.name != "Message" }
