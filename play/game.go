package play

import (
	"strings"

	"foundling/api"
	"foundling/boot"
	"foundling/image"
	"foundling/pack"
	"foundling/script"
	"foundling/sema"
	"foundling/small"
	"foundling/vm"
)

// over: what is played gives up with it, where nothing else is to be told.
type over struct{}

// game: what is played: the machine that runs now, and what has come of it, and of those ahead.
type game struct {
	*vm.Machine
	options vm.Options // Input and Count: of the first machine
	seen    int        // how many of the machine's events are told
	saved   []byte     // the last snapshot of the machines ahead
	lines   []string
	events  []vm.Event
}

// play: from nothing to the end, or to where it gives up.
func (g *game) play(files []string, text string) {
	defer func() {
		switch x := recover().(type) {
		case nil, over:
		default:
			panic(x)
		}
	}()
	list := g.commands(text)
	cells, o := script.Options(list...)
	b := g.first(g.program(files), cells)
	spoil(b, list)
	m, e := loaded(b, cells, o)
	g.check("load", e)
	g.Machine, g.options = m, o
	todo := deeds()
	for _, c := range list {
		if d, isDeed := todo[c.Kind]; isDeed {
			d.do(g, c)
		}
	}
}

// commands: of the script.
func (g *game) commands(text string) []script.Cmd {
	list, line, e := script.Parse(text)
	if e != api.OK {
		g.tell("script", line, int(e))
		panic(over{})
	}
	return list
}

// program: of the files.
func (g *game) program(files []string) sema.Program {
	p, problems := sema.Build(files...)
	for _, x := range problems {
		g.tell("problem", x.File, x.At, int(x.Err))
	}
	if len(problems) > 0 {
		panic(over{})
	}
	return p
}

// first: the image from which all begins.
func (g *game) first(p sema.Program, cells int) []byte {
	b, e := born(p, cells)
	g.check("boot", e)
	g.sum("boot", b)
	return b
}

// check: an error is all that is told behind it.
func (g *game) check(what string, e api.Errno) {
	if e != api.OK {
		g.tell(what, int(e))
		panic(over{})
	}
}

// sum: tells how great an image is, and its checksum.
func (g *game) sum(what string, b []byte) { g.tell(what, len(b), int(pack.Crc(b))) }

// tell: a line of words and numbers.
func (g *game) tell(what string, list ...int) {
	words := []string{what}
	for _, n := range list {
		words = append(words, small.Text(int64(n)))
	}
	g.lines = append(g.lines, strings.Join(words, " "))
}

// snapshot: the last one, of this machine or of one ahead.
func (g *game) snapshot() []byte {
	if b := g.Image(); b != nil {
		return b
	}
	return g.saved
}

// born: a program's image.
func born(p sema.Program, cells int) ([]byte, api.Errno) {
	h, root, e := boot.Build(p, cells)
	if e != api.OK {
		return nil, e
	}
	return image.Encode(h, root)
}

// spoil: bytes of an image, whose own it is to be: it is changed.
func spoil(b []byte, list []script.Cmd) {
	for _, c := range list {
		if c.Kind == script.Spoil {
			b[c.At%len(b)] = byte(c.N)
		}
	}
}

// loaded: a machine of an image.
func loaded(b []byte, cells int, o vm.Options) (*vm.Machine, api.Errno) {
	h, root, e := image.Decode(b, cells)
	if e != api.OK {
		return nil, e
	}
	return vm.New(h, root, o)
}
