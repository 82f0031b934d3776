package play

import (
	"strings"

	"foundling/api"
	"foundling/event"
	"foundling/script"
)

// ends: how a machine is, by vm's numbers.
var ends = [...]string{"running", "done", "quit", "memory", "broken"}

// deed: what a command does with the machine.
type deed interface{ do(g *game, c script.Cmd) }

type (
	run    struct{}
	reload struct{}
	shown  struct{}
)

// deeds: by the kinds of commands. The others are about what was there ahead of the machine.
func deeds() map[int]deed {
	return map[int]deed{script.Run: run{}, script.Reload: reload{}, script.Image: shown{}}
}

// do: so many steps.
func (run) do(g *game, c script.Cmd) {
	end := g.Run(c.N)
	fresh := g.Events()[g.seen:]
	g.seen += len(fresh)
	g.events = append(g.events, fresh...)
	for line := range strings.Lines(event.Text(fresh...)) {
		g.lines = append(g.lines, strings.TrimSuffix(line, "\n"))
	}
	g.tell("ran "+ends[end], g.Count())
}

// do: another machine of the last snapshot, if it can be made.
func (reload) do(g *game, c script.Cmd) {
	b := g.snapshot()
	if b == nil {
		g.tell("reload", int(api.ErrNone))
		return
	}
	o := g.options
	o.Input, o.Count = g.Rest(), g.Count()
	m, e := loaded(b, c.N, o)
	if e != api.OK {
		g.tell("reload", int(e))
		return
	}
	g.Machine, g.saved, g.seen = m, b, 0
	g.tell("reloaded")
}

// do: tells of the last snapshot.
func (shown) do(g *game, _ script.Cmd) {
	b := g.snapshot()
	if b == nil {
		g.tell("image", int(api.ErrNone))
		return
	}
	g.sum("image", b)
}
