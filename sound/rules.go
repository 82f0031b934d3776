package sound

import (
	"foundling/api"
	"foundling/head"
	"foundling/image"
	"foundling/small"
)

// A Format is formatStep times a count of fields, and a Kind.
const formatStep = 4

// leads: rule 1.
func (l *look) leads() bool {
	if !image.Closed(l.Heap) {
		return false
	}
	for w, d := range l.each() {
		if d.Kind == head.Raw {
			continue
		}
		for i := range d.Size {
			if l.word(w, i) == 0 {
				return false
			}
		}
	}
	return true
}

// unmarked: rule 2.
func (l *look) unmarked() bool {
	for _, d := range l.each() {
		if d.Mark {
			return false
		}
	}
	return true
}

// rooted: rule 3. That the root's class is its ArrayClass makes that an object, too.
func (l *look) rooted() bool {
	if d, _ := l.Head(l.root); d.Size != Special || !l.isList(l.root) {
		return false
	}
	return l.isOf(l.special(Nil), NilClass) && l.isOf(l.special(True), TrueClass) && l.isOf(l.special(False), FalseClass) &&
		l.isList(l.special(Globals)) && l.isList(l.special(Symbols)) && l.isList(l.special(Schedule))
}

// named: rule 4.
func (l *look) named() bool {
	globals := l.list(l.special(Globals))
	if len(globals)%2 != 0 || !l.rising(globals, 2) {
		return false
	}
	for i := 0; i < len(globals); i += 2 {
		if !l.enter(globals[i], globals[i+1]) {
			return false
		}
	}
	// What has a Kernel name in Globals is a class, so that those of the root, if they are the same, are classes.
	for i, name := range Kernel() {
		if c, there := l.names[name]; !there || c != l.special(ObjectClass+i) {
			return false
		}
	}
	return true
}

// enter: learns of a class in Globals, if it is one, of this name. As a class has one Name, none stands there twice.
func (l *look) enter(name, c api.Word) bool {
	if !l.isShaped(c) || l.word(c, Name) != name {
		return false
	}
	text, _ := l.Bytes(name)
	l.names[string(text)] = c
	l.classes = append(l.classes, c)
	l.known[c] = class
	return true
}

// paired: rule 5. As a metaclass has one Name, no two classes have the same.
func (l *look) paired() bool {
	for _, c := range l.classes {
		m := l.classOf(c)
		if !l.isShaped(m) || !l.isOf(m, MetaClass) || l.word(m, Name) != c {
			return false
		}
		l.known[m] = meta
	}
	return true
}

// ascends: rule 6.
func (l *look) ascends() bool {
	walks := map[api.Word]int{}
	for i, c := range l.classes {
		if !l.climbs(c, i+1, walks) || !l.mirrors(c) {
			return false
		}
	}
	return true
}

// climbs: does one come from a class to nil? What an earlier walk has met needn't be walked again: from there one came to nil.
func (l *look) climbs(c api.Word, walk int, walks map[api.Word]int) bool {
	for nothing := l.special(Nil); c != nothing; c = l.word(c, Super) {
		if l.known[c] != class || walks[c] == walk {
			return false
		}
		if walks[c] != 0 {
			return true
		}
		walks[c] = walk
	}
	return true
}

// mirrors: does its class's Super stand where its own one does? That of Object alone, which has none, stands below Class.
func (l *look) mirrors(c api.Word) bool {
	super, above := l.word(c, Super), l.special(ClassClass)
	isTop := c == l.special(ObjectClass)
	if isTop != (super == l.special(Nil)) {
		return false
	}
	if !isTop {
		above = l.classOf(super)
	}
	return l.word(l.classOf(c), Super) == above
}

// collected: rule 7. As the bytes rise, none stands there twice, so that their count tells whether all do.
func (l *look) collected() bool {
	count := 0
	for w := range l.each() {
		if l.isOf(w, SymbolClass) {
			count++
		}
	}
	list := l.list(l.special(Symbols))
	return len(list) == count && l.rising(list, 1)
}

// formed: rule 8.
func (l *look) formed() bool {
	for _, d := range l.each() {
		if l.known[d.Class] == 0 || !l.fits(d) {
			return false
		}
	}
	return true
}

// fits: are an object's Kind and Size as its class's Format asks?
func (l *look) fits(d head.Head) bool {
	format, e := small.Value(l.word(d.Class, Format))
	if e != api.OK || format < 0 || format > formatStep*api.MaxObject {
		return false
	}
	if d.Kind != int(format%formatStep) {
		return false
	}
	return d.Kind != head.Fields || d.Size == int(format/formatStep)
}

// told: rule 9.
func (l *look) told() bool {
	for _, c := range l.classes {
		if !l.tells(c) || !l.tells(l.classOf(c)) {
			return false
		}
	}
	return true
}

// tells: are a class's Methods and Vars lists of such?
func (l *look) tells(c api.Word) bool {
	methods, vars := l.word(c, Methods), l.word(c, Vars)
	if !l.isList(methods) || !l.isList(vars) {
		return false
	}
	list := l.list(methods)
	if len(list)%2 != 0 || !l.rising(list, 2) {
		return false
	}
	for i := 1; i < len(list); i += 2 {
		if !l.isOf(list[i], MethodClass) {
			return false
		}
	}
	for _, name := range l.list(vars) {
		if !l.isOf(name, SymbolClass) {
			return false
		}
	}
	return true
}
