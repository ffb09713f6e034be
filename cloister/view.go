package cloister

// view is what is told so far of all that may be known under a label.
type view struct {
	k       *Kernel
	label   int
	numbers []int
}

func (v *view) tell(numbers ...int) {
	v.numbers = append(v.numbers, numbers...)
}

func (v *view) knows(o object) bool {
	return within(o.labelOf(), v.label)
}

// tellContainers tells of those that are known of the containers in these slots.
func (v *view) tellContainers(slots ...int) {
	for _, slot := range slots {
		if c, ok := v.k.slots[slot].(*container); ok && v.knows(c) {
			v.tellContainer(c)
		}
	}
}

func (v *view) tellContainer(c *container) {
	slots := v.slotsIn(c)
	for _, slot := range slots {
		v.tellSlot(slot)
	}
	for q := c.quanta.first; q < c.quanta.end; q++ {
		if v.k.quantumHome(q) == c {
			v.tellQuantum(q)
		}
	}
	v.tellContainers(slots...)
}

// slotsIn leaves out those that lie further inside.
func (v *view) slotsIn(c *container) []int {
	var slots []int
	for slot := c.slots.first; slot < c.slots.end; slot++ {
		if v.k.home(slot) == c {
			slots = append(slots, slot)
		}
	}
	return slots
}

func (v *view) tellSlot(slot int) {
	v.tell(slot, v.k.kindIn(slot))
	o := v.k.slots[slot]
	if o == nil {
		return
	}
	v.tell(o.labelOf())
	if v.knows(o) {
		v.tell(o.inside()...)
	}
}

func (v *view) tellQuantum(quantum int) {
	t := v.k.threadOf(quantum)
	if t == nil || !v.knows(t) {
		v.tell(quantum, -1)
		return
	}
	v.tell(quantum, t.place())
}
