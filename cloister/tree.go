package cloister

func (k *Kernel) put(o object) {
	k.slots[o.place()] = o
}

// current is nil if there is no current thread.
func (k *Kernel) current() *thread {
	t := k.quanta[k.phase]
	if t == nil || !t.awake || !k.holds(t) {
		return nil
	}
	return t
}

// holds compares the object itself, not its slot: another one may have come to lie there.
func (k *Kernel) holds(o object) bool {
	return k.slots[o.place()] == o
}

// home is the container in which a slot lies; nil for the root's own slot, which lies in none.
func (k *Kernel) home(slot int) *container {
	var least *container
	for _, o := range k.slots {
		c, ok := o.(*container)
		if !ok || !c.slots.has(slot) {
			continue
		}
		if least == nil || c.slots.size() < least.slots.size() {
			least = c
		}
	}
	return least
}
