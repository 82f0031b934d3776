package play

import (
	"slices"
	"strconv"
	"strings"

	"foundling/api"
	"foundling/boot"
	"foundling/event"
	"foundling/image"
	"foundling/script"
	"foundling/sema"
	"foundling/vm"
)

// The model of Run has no machine that it keeps: of what was played it keeps a list of beginnings, one for each machine, and makes a machine anew for each question.

// beginning: of a machine, and how many steps it was told to do.
type beginning struct {
	image []byte
	cells int
	o     vm.Options
	steps int
}

// machine: behind all of its steps.
func (b beginning) machine() (*vm.Machine, int) {
	h, root, _ := image.Decode(b.image, b.cells)
	m, _ := vm.New(h, root, b.o)
	end := m.Run(b.steps)
	return m, end
}

func (b beginning) err() api.Errno {
	h, root, e := image.Decode(b.image, b.cells)
	if e == api.OK {
		_, e = vm.New(h, root, b.o)
	}
	return e
}

// modelLines: what Run is to tell.
func modelLines(files []string, text string) []string {
	list, line, e := script.Parse(text)
	if e != api.OK {
		return []string{numbered("script", line, int(e))}
	}
	p, problems := sema.Build(files...)
	var out []string
	for _, x := range problems {
		out = append(out, numbered("problem", x.File, x.At, int(x.Err)))
	}
	if len(out) > 0 {
		return out
	}
	cells, o := script.Options(list...)
	h, root, e := boot.Build(p, cells)
	if e != api.OK {
		return []string{numbered("boot", int(e))}
	}
	b, _ := image.Encode(h, root)
	out = append(out, sumLine("boot", b))
	for _, c := range list {
		if c.Kind == script.Spoil {
			b[c.At%len(b)] = byte(c.N)
		}
	}
	first := beginning{image: b, cells: cells, o: o}
	if e := first.err(); e != api.OK {
		return append(out, numbered("load", int(e)))
	}
	return append(out, modelCommands(list, []beginning{first})...)
}

func numbered(what string, list ...int) string {
	for _, n := range list {
		what += " " + strconv.Itoa(n)
	}
	return what
}

// modelCommands: the lines of commands, with the machines that were there.
func modelCommands(list []script.Cmd, past []beginning) []string {
	var out []string
	for _, c := range list {
		now := &past[len(past)-1]
		switch c.Kind {
		case script.Run:
			before, _ := now.machine()
			now.steps += c.N
			after, end := now.machine()
			for _, x := range after.Events()[len(before.Events()):] {
				out = append(out, strings.TrimSuffix(event.Text(x), "\n"))
			}
			out = append(out, "ran "+strings.Fields("running done quit memory broken")[end]+" "+strconv.Itoa(after.Count()))
		case script.Reload:
			m, _ := now.machine()
			next := beginning{modelSnapshot(past), c.N, now.o, 0}
			next.o.Input, next.o.Count = m.Rest(), m.Count()
			e := next.err()
			if next.image == nil {
				e = api.ErrNone
			}
			if e != api.OK {
				out = append(out, numbered("reload", int(e)))
				continue
			}
			out = append(out, "reloaded")
			past = append(past, next)
		case script.Image:
			if b := modelSnapshot(past); b != nil {
				out = append(out, sumLine("image", b))
			} else {
				out = append(out, "image 6")
			}
		}
	}
	return out
}

// modelSnapshot: the last one of all machines.
func modelSnapshot(past []beginning) []byte {
	for _, b := range slices.Backward(past) {
		m, _ := b.machine()
		if s := m.Image(); s != nil {
			return s
		}
	}
	return nil
}
