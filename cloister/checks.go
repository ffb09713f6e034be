package cloister

import "cloister/api"

// request is a trap under way: the thread that asks, and what was needed so far.
type request struct {
	k    *Kernel
	t    *thread
	used int
}

// within tells whether all of one set of categories is in another one.
func within(inner, outer int) bool { return inner&^outer == 0 }

// fits keeps what was needed only if the check holds: a failed check does not count as use.
func (r *request) fits(inner, outer int) api.Errno {
	needed := inner &^ outer
	if !within(needed, r.t.owns) {
		return api.ErrLabel
	}
	r.used |= needed
	return api.OK
}

func (r *request) mayRead(o object) api.Errno {
	return r.fits(o.labelOf(), r.t.labelOf())
}

func (r *request) mayWrite(o object) api.Errno {
	return r.fits(r.t.labelOf(), o.labelOf())
}

func (r *request) reach(slot int) api.Errno {
	return r.enter(r.k.home(slot))
}

// enter reads a container behind all those around it, so that the outermost check comes first.
func (r *request) enter(c *container) api.Errno {
	if c == nil {
		return api.OK
	}
	if err := r.reach(c.place()); err != api.OK {
		return err
	}
	return r.mayRead(c)
}

// find reaches a slot in which something must be.
func (r *request) find(slot int) (object, api.Errno) {
	if err := r.reach(slot); err != api.OK {
		return nil, err
	}
	o := r.k.slots[slot]
	if o == nil {
		return nil, api.ErrDead
	}
	return o, api.OK
}

// findToRead finds what must be there, and may be read.
func (r *request) findToRead(slot int) (object, api.Errno) {
	o, err := r.find(slot)
	if err != api.OK {
		return nil, err
	}
	return o, r.mayRead(o)
}

// findToWrite finds what must be there, and may be written.
func (r *request) findToWrite(slot int) (object, api.Errno) {
	o, err := r.find(slot)
	if err != api.OK {
		return nil, err
	}
	return o, r.mayWrite(o)
}

// mayMake asks what is asked of the making of every object.
func (r *request) mayMake(in, slot, label int) api.Errno {
	o, err := r.findToRead(in)
	if err != api.OK {
		return err
	}
	if err := r.mayWrite(o); err != api.OK {
		return err
	}
	c, ok := o.(*container)
	if !ok {
		return api.ErrKind
	}
	if r.k.slots[slot] != nil || r.k.home(slot) != c {
		return api.ErrBusy
	}
	// Owning does not help here: what lies in a container may not be less secret than it.
	if !within(c.labelOf(), label) {
		return api.ErrLabel
	}
	return r.fits(r.t.labelOf(), label)
}

// mayHave asks whether a container that comes to lie in c at this slot can have these ranges.
func (r *request) mayHave(c *container, slot int, slots, quanta span) api.Errno {
	if slots.has(slot) {
		return api.ErrBusy
	}
	for s := slots.first; s < slots.end; s++ {
		if r.k.slots[s] != nil || r.k.home(s) != c {
			return api.ErrBusy
		}
	}
	for q := quanta.first; q < quanta.end; q++ {
		if r.k.quantumHome(q) != c {
			return api.ErrBusy
		}
	}
	return api.OK
}

// mayChange asks whether a quantum can get or lose its thread, and tells the container in which it lies.
func (r *request) mayChange(quantum int) (*container, api.Errno) {
	home := r.k.quantumHome(quantum)
	if err := r.enter(home); err != api.OK {
		return nil, err
	}
	if err := r.mayWrite(home); err != api.OK {
		return nil, err
	}
	return home, api.OK
}
