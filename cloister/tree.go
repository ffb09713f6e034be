package cloister

import "cloister/api"

func (k *Kernel) put(o object) {
	k.slots[o.place()] = o
}

func (k *Kernel) kindIn(slot int) int {
	if k.slots[slot] == nil {
		return api.Free
	}
	return k.slots[slot].kindOf()
}

// current is nil if there is no current thread.
func (k *Kernel) current() *thread {
	t := k.threadOf(k.phase)
	if t == nil || !t.awake {
		return nil
	}
	return t
}

// threadOf is nil if a quantum has no thread, or that has gone.
func (k *Kernel) threadOf(quantum int) *thread {
	t := k.quanta[quantum]
	if t == nil || !k.holds(t) {
		return nil
	}
	return t
}

// holds compares the object itself, not its slot: another one may have come to lie there.
func (k *Kernel) holds(o object) bool {
	return k.slots[o.place()] == o
}

// home is the container in which a slot lies; nil for the root's own slot, which lies in none.
func (k *Kernel) home(slot int) *container {
	return k.innermost(func(c *container) bool { return c.slots.has(slot) })
}

// quantumHome is the container in which a quantum lies.
func (k *Kernel) quantumHome(quantum int) *container {
	return k.innermost(func(c *container) bool { return c.quanta.has(quantum) })
}

// innermost goes by the ranges of slots for quanta too: containers one in another may have the
// same quanta, but never the same slots.
func (k *Kernel) innermost(around func(*container) bool) *container {
	var least *container
	for _, o := range k.slots {
		c, ok := o.(*container)
		if !ok || !around(c) {
			continue
		}
		if least == nil || c.slots.size() < least.slots.size() {
			least = c
		}
	}
	return least
}

// remove needs no walk through the tree: what lies in a container, however deep, is in its ranges.
func (k *Kernel) remove(o object) {
	k.empty(o.place())
	c, ok := o.(*container)
	if !ok {
		return
	}
	for slot := c.slots.first; slot < c.slots.end; slot++ {
		k.empty(slot)
	}
	k.dropThreads(c.quanta)
}

// empty closes the channel of a port, which nobody can come to any more.
func (k *Kernel) empty(slot int) {
	if p, ok := k.slots[slot].(*port); ok {
		close(p.words)
	}
	k.slots[slot] = nil
}

func (k *Kernel) dropThreads(quanta span) {
	for q := quanta.first; q < quanta.end; q++ {
		k.quanta[q] = nil
	}
}
