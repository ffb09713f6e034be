package cloister_test

import (
	"slices"

	"cloister/api"
)

// plan is a second telling of what is in a kernel: it follows the traps that held, and from it
// follows what View must tell. It keeps where slots and quanta lie, and so need not work it out.
type plan struct {
	phase  int
	things [api.Slots]*thing
	homes  [api.Slots]*thing
	turns  [api.Quanta]*thing
	owners [api.Quanta]*thing // the containers in which the quanta lie
}

type thing struct {
	slot, kind, label int
	gone              bool
	words             []int // of a segment or a port
	owns              int
	awake             bool
	ranges            []int // a, b, g, h
}

func newPlan() *plan {
	p := &plan{}
	p.add(&thing{slot: 0, kind: api.Container, ranges: with(1, api.Slots, 0, api.Quanta)})
	p.add(&thing{slot: 1, kind: api.Thread, owns: api.MaxLabel, awake: true})
	for q := range p.turns {
		p.turns[q] = p.things[1]
	}
	return p
}

// now is the current thread, or nil.
func (p *plan) now() *thing {
	x := p.turns[p.phase]
	if x == nil || x.gone || !x.awake {
		return nil
	}
	return x
}

func (p *plan) tick() { p.phase = (p.phase + 1) % api.Quanta }

// follow does what a trap of the current thread has done that told no error.
func (p *plan) follow(number int, args ...int) {
	switch number {
	case api.NewSegment:
		p.add(&thing{slot: args[1], kind: api.Segment, label: args[2], words: make([]int, api.Words)})
	case api.Write:
		p.things[args[0]].words[args[1]] = args[2]
	case api.NewContainer:
		p.add(&thing{slot: args[1], kind: api.Container, label: args[2], ranges: slices.Clone(args[3:])})
	case api.FreeSlot:
		p.free(args[0])
	case api.NewThread:
		p.add(&thing{slot: args[1], kind: api.Thread, label: args[2], owns: args[3], awake: true})
	case api.Give:
		p.turns[args[0]] = p.things[args[1]]
	case api.Drop:
		p.turns[args[0]] = nil
	case api.Sleep:
		p.now().awake = false
	case api.Wake:
		p.things[args[0]].awake = true
	case api.NewPort:
		p.add(&thing{slot: args[1], kind: api.Port, label: args[2]})
	case api.Send:
		if x := p.things[args[0]]; len(x.words) < api.Room {
			x.words = append(x.words, args[1])
		}
	case api.Receive:
		x := p.things[args[0]]
		x.words = x.words[1:]
	}
}

func (p *plan) add(x *thing) {
	p.things[x.slot] = x
	if x.kind != api.Container {
		return
	}
	for s := x.ranges[0]; s < x.ranges[1]; s++ {
		p.homes[s] = x
	}
	for q := x.ranges[2]; q < x.ranges[3]; q++ {
		p.owners[q], p.turns[q] = x, nil
	}
}

func (p *plan) free(slot int) {
	x := p.things[slot]
	x.gone = true
	p.things[slot] = nil
	for s, home := range p.homes {
		if home != x {
			continue
		}
		if p.things[s] != nil {
			p.free(s)
		}
	}
	for s, home := range p.homes {
		if home == x {
			p.homes[s] = p.homes[slot]
		}
	}
	for q, owner := range p.owners {
		if owner == x {
			p.owners[q], p.turns[q] = p.homes[slot], nil
		}
	}
}

// view is what View must tell.
func (p *plan) view(l int) []int {
	return append(with(p.phase), p.viewOf(p.things[0], l)...)
}

func (p *plan) viewOf(c *thing, l int) []int {
	if c.label|l != l {
		return nil
	}
	var told, below []int
	for s, home := range p.homes {
		if home != c {
			continue
		}
		x := p.things[s]
		if x == nil {
			told = append(told, s, api.Free)
			continue
		}
		told = append(told, s, x.kind, x.label)
		if x.label|l != l {
			continue
		}
		told = append(told, x.inside()...)
		if x.kind == api.Container {
			below = append(below, p.viewOf(x, l)...)
		}
	}
	for q, owner := range p.owners {
		if owner != c {
			continue
		}
		if x := p.turns[q]; x != nil && !x.gone && x.label|l == l {
			told = append(told, q, x.slot)
		} else {
			told = append(told, q, -1)
		}
	}
	return append(told, below...)
}

func (x *thing) inside() []int {
	switch x.kind {
	case api.Container:
		return x.ranges
	case api.Thread:
		if x.awake {
			return with(x.owns, 1)
		}
		return with(x.owns, 0)
	case api.Port:
		return append(with(len(x.words)), x.words...)
	}
	return x.words
}
