package chunk

import (
	"math/rand"
	"regexp"
	"strconv"
	"strings"

	"foundling/api"
	"foundling/lex"
)

var (
	formName   = regexp.MustCompile(`^[a-zA-Z][a-zA-Z0-9]{0,63}$`)
	formBlanks = regexp.MustCompile("^[ \t\n\r]*$")
	formFields = regexp.MustCompile("[ \t\n\r]+")
)

// modelForm: the kinds of the tokens, and the words of those that are written always alike.
func modelForm(tokens []lex.Token) string {
	form := ""
	for i, t := range tokens {
		form += strconv.Itoa(t.Kind)
		if t.Kind == lex.Keyword || t.Kind == lex.Name && i > 0 {
			form += t.Word
		}
		form += " "
	}
	return form
}

// modelClass: of a class's tokens; false: a name is none.
func modelClass(tokens []lex.Token, at int) (Class, bool) {
	c := Class{Name: tokens[2].Word, Super: tokens[0].Word, At: at}
	if c.Super == "nil" {
		c.Super = ""
	}
	good := formName.MatchString(c.Name)
	for _, name := range formFields.Split(tokens[4].Word, -1) {
		if name != "" {
			c.Fields = append(c.Fields, name)
			good = good && formName.MatchString(name)
		}
	}
	return c, good
}

// modelRead: each ! that is no half of two is where a chunk ends.
func modelRead(s string) (Unit, int, api.Errno) {
	if len(s) > 65536 {
		return Unit{}, 0, api.ErrSize
	}
	var u Unit
	var header *Source
	hidden := strings.ReplaceAll(s, "!!", "##")
	from := 0
	for i := range hidden {
		if hidden[i] != '!' {
			continue
		}
		text := strings.TrimLeft(s[from:i], " \t\n\r")
		at := i - len(text)
		text = strings.ReplaceAll(strings.TrimRight(text, " \t\n\r"), "!!", "!")
		from = i + 1
		if text == "" {
			header = nil
			continue
		}
		if header != nil {
			u.Sources = append(u.Sources, Source{header.Class, header.Meta, text, at})
			continue
		}
		tokens, _, e := lex.All(text)
		if e != api.OK {
			return Unit{}, at, e
		}
		switch modelForm(tokens) {
		case "1 2subclass: 5 2fields: 4 0 ":
			c, good := modelClass(tokens, at)
			if !good {
				return Unit{}, at, api.ErrForm
			}
			u.Classes = append(u.Classes, c)
		case "1 1methods 0 ":
			header = &Source{Class: tokens[0].Word}
		case "1 1class 1methods 0 ":
			header = &Source{Class: tokens[0].Word, Meta: true}
		default:
			return Unit{}, at, api.ErrForm
		}
	}
	if rest := strings.TrimLeft(s[from:], " \t\n\r"); rest != "" {
		return Unit{}, len(s) - len(rest), api.ErrEnd
	}
	if header != nil {
		return Unit{}, len(s), api.ErrEnd
	}
	return u, 0, api.OK
}

// modelWrite: as the chapter says, part by part.
func modelWrite(u Unit) (string, api.Errno) {
	s, e := "", api.OK
	tell := func(good bool) {
		if !good {
			e = api.ErrForm
		}
	}
	for _, c := range u.Classes {
		super := c.Super
		if super == "" {
			super = "nil"
		} else {
			tell(formName.MatchString(super) && super != "nil")
		}
		tell(formName.MatchString(c.Name))
		for _, name := range c.Fields {
			tell(formName.MatchString(name))
		}
		s += super + " subclass: #" + c.Name + " fields: '" + strings.Join(c.Fields, " ") + "'!\n"
	}
	for i, m := range u.Sources {
		kind := " methods!\n"
		if m.Meta {
			kind = " class methods!\n"
		}
		tell(formName.MatchString(m.Class) && !formBlanks.MatchString(m.Text) && !strings.ContainsAny(m.Text[:1]+m.Text[len(m.Text)-1:], " \t\n\r"))
		switch {
		case i == 0:
			s += m.Class + kind
		case u.Sources[i-1].Class != m.Class || u.Sources[i-1].Meta != m.Meta:
			s += " !\n" + m.Class + kind
		}
		s += strings.Join(strings.Split(m.Text, "!"), "!!") + "!\n"
	}
	if len(u.Sources) > 0 {
		s += " !\n"
	}
	if len(s) > 65536 {
		return "", api.ErrSize
	}
	if e != api.OK {
		return "", e
	}
	return s, api.OK
}

// pick: one of them by chance.
func pick[T any](r *rand.Rand, list ...T) T { return list[r.Intn(len(list))] }

func someName(r *rand.Rand) string {
	return pick(r, "a", "Object", "class", "methods", "X9", "nil", "self", strings.Repeat("n", 64))
}

// someText: of a method; at times none that may be.
func someText(r *rand.Rand) string {
	s := ""
	for range 1 + r.Intn(6) {
		s += pick(r, "x", "!", "!!", "^1", " ", "\n", "'", "foo: x", "\xff", "Object methods", "\x00", "\"", "$!")
	}
	if r.Intn(20) > 0 {
		s = strings.Trim(s, " \t\n\r")
	}
	return s
}

// someUnit: at times with names that are none.
func someUnit(r *rand.Rand) Unit {
	var u Unit
	for range r.Intn(4) {
		c := Class{Name: someName(r), Super: pick(r, "", "Object", "class", "X9"), At: r.Intn(9)}
		for range r.Intn(4) {
			c.Fields = append(c.Fields, someName(r))
		}
		u.Classes = append(u.Classes, c)
	}
	for range r.Intn(5) {
		u.Sources = append(u.Sources, Source{Class: pick(r, "Object", "class", someName(r)), Meta: r.Intn(2) == 0, Text: someText(r), At: r.Intn(9)})
	}
	if r.Intn(4) == 0 {
		spoil(r, &u)
	}
	return u
}

// spoil: a name becomes one that is none.
func spoil(r *rand.Rand, u *Unit) {
	bad := pick(r, "", "1", "a b", "a:", "+", "nil", "\xff", strings.Repeat("n", 65), "a!")
	if len(u.Sources) > 0 && r.Intn(2) == 0 {
		u.Sources[r.Intn(len(u.Sources))].Class = bad
		return
	}
	if len(u.Classes) == 0 {
		return
	}
	c := &u.Classes[r.Intn(len(u.Classes))]
	switch r.Intn(3) {
	case 0:
		c.Name = bad
	case 1:
		c.Super = bad
	case 2:
		c.Fields = append(c.Fields, bad)
	}
}

// soup: a file of pieces by chance.
func soup(r *rand.Rand) string {
	pieces := []string{"nil subclass: #Object fields: ''!", "Object subclass: #A fields: ' a  b '!", "A subclass: #'B' \"n\" fields: 'x'!", "Object methods!", "A class methods!", "\nB\tmethods !", "x ^1!", " + y ^'it''s!!'!", "!!!", " !", " !", "\n!\n", "\t", " ", "\n",
		"x", "!", "!!", "'", "nil subclass: #a:b fields: ''!", "A subclass: #+ fields: ''!", "A subclass: #B fields: 'a 1'!", "subclass:", "#A", "methods", "\x00", "\xff", "\x0b", "3"}
	most := len(pieces)
	if r.Intn(2) == 0 {
		most -= 14
	}
	s := ""
	for range r.Intn(9) {
		s += pieces[r.Intn(most)]
	}
	if r.Intn(2) == 0 {
		s += " !"
	}
	return s
}
