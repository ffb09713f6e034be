package cloister

import "cloister/api"

// object is what may lie in a slot.
type object interface {
	place() int
	kindOf() int
	labelOf() int
	inside() []int // what a view tells to those who may read it
}

// base is what objects of all kinds have; it stays as long as the object is there.
type base struct {
	slot, kind, label int
}

func (b base) place() int   { return b.slot }
func (b base) kindOf() int  { return b.kind }
func (b base) labelOf() int { return b.label }

type segment struct {
	base
	words [api.Words]int
}

type port struct {
	base
	words chan int // with room for api.Room of them; closed when the port goes
}

type thread struct {
	base
	owns  int
	awake bool
}

type container struct {
	base
	slots, quanta span
}

// span is a range from its first number to the one before end; empty where both are the same.
type span struct {
	first, end int
}

func (s span) has(n int) bool { return s.first <= n && n < s.end }
func (s span) size() int      { return s.end - s.first }

func (s *segment) inside() []int { return s.words[:] }

// A channel tells its words only by giving them out: each one goes in again at the end, so that
// behind a whole round all stand as before.
func (p *port) inside() []int {
	count := len(p.words)
	numbers := []int{count}
	for range count {
		word := <-p.words
		p.words <- word
		numbers = append(numbers, word)
	}
	return numbers
}

func (t *thread) inside() []int {
	if t.awake {
		return []int{t.owns, 1}
	}
	return []int{t.owns, 0}
}

func (c *container) inside() []int {
	return []int{c.slots.first, c.slots.end, c.quanta.first, c.quanta.end}
}
