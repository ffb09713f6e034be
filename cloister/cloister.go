// Package cloister: a small kernel in which nobody hears what is not for them: see DOC.md.
package cloister

import "cloister/api"

// Kernel has all that there is.
type Kernel struct {
	slots  [api.Slots]object // nil: the slot is free
	quanta [api.Quanta]*thread
	phase  int
}

// Boot makes a kernel as it is at first.
func Boot() *Kernel {
	k := &Kernel{}
	k.put(&container{
		base:   base{slot: 0, kind: api.Container, label: 0},
		slots:  span{1, api.Slots},
		quanta: span{0, api.Quanta},
	})
	first := &thread{
		base:  base{slot: 1, kind: api.Thread, label: 0},
		owns:  api.MaxLabel,
		awake: true,
	}
	k.put(first)
	for q := range k.quanta {
		k.quanta[q] = first
	}
	return k
}

// Trap is what the current thread asks (P3).
func (k *Kernel) Trap(number int, args ...int) api.Out {
	t := k.current()
	if t == nil {
		return api.Out{Err: api.ErrIdle}
	}
	row, found := trapOf(number)
	if !found || len(args) != len(row.takes) {
		return api.Out{Err: api.ErrTrap}
	}
	if !row.admits(args) {
		return api.Out{Err: api.ErrArg}
	}
	r := &request{k: k, t: t}
	value, err := row.does(r, args...)
	return api.Out{Err: err, Value: value, Used: r.used}
}

// Tick goes on to the next phase (P4).
func (k *Kernel) Tick() {
	k.phase = (k.phase + 1) % api.Quanta
}

// Now tells the phase and the current thread (P4).
func (k *Kernel) Now() api.Now {
	t := k.current()
	if t == nil {
		return api.Now{Phase: k.phase, Thread: -1}
	}
	return api.Now{Phase: k.phase, Thread: t.place(), Label: t.labelOf()}
}

// View tells all that may be known under a label (P9).
func (k *Kernel) View(label int) []int {
	if label < 0 || label > api.MaxLabel {
		return nil
	}
	v := &view{k: k, label: label}
	v.tell(k.phase)
	v.tellContainers(0)
	return v.numbers
}
