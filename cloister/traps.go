package cloister

import (
	"math"

	"cloister/api"
)

// trap is a row of the table: what each argument may be, and what is done.
type trap struct {
	takes []bounds
	does  func(r *request, args ...int) (int, api.Errno)
}

// bounds has both ends in it: a word may be any int, the greatest one too.
type bounds struct {
	least, most int
	closes      bool // the end of a range: not below the argument ahead of it
}

func (t trap) admits(args []int) bool {
	for i, b := range t.takes {
		if args[i] < b.least || args[i] > b.most {
			return false
		}
		if b.closes && args[i] < args[i-1] {
			return false
		}
	}
	return true
}

// trapOf tells false if there is no trap of this number.
func trapOf(number int) (trap, bool) {
	slot := bounds{least: 0, most: api.Slots - 1}
	label := bounds{least: 0, most: api.MaxLabel}
	index := bounds{least: 0, most: api.Words - 1}
	word := bounds{least: math.MinInt, most: math.MaxInt}
	firstSlot := bounds{least: 1, most: api.Slots}
	endSlot := bounds{least: 1, most: api.Slots, closes: true}
	firstQuantum := bounds{least: 0, most: api.Quanta}
	endQuantum := bounds{least: 0, most: api.Quanta, closes: true}
	quantum := bounds{least: 0, most: api.Quanta - 1}
	categories := bounds{least: 0, most: api.MaxLabel}
	table := [...]trap{
		api.Self:         {nil, (*request).self},
		api.Kind:         {[]bounds{slot}, (*request).kind},
		api.Label:        {[]bounds{slot}, (*request).label},
		api.NewSegment:   {[]bounds{slot, slot, label}, (*request).newSegment},
		api.Read:         {[]bounds{slot, index}, (*request).readWord},
		api.Write:        {[]bounds{slot, index, word}, (*request).writeWord},
		api.NewContainer: {[]bounds{slot, slot, label, firstSlot, endSlot, firstQuantum, endQuantum}, (*request).newContainer},
		api.FreeSlot:     {[]bounds{slot}, (*request).free},
		api.NewThread:    {[]bounds{slot, slot, label, categories}, (*request).newThread},
		api.Give:         {[]bounds{quantum, slot}, (*request).give},
		api.Drop:         {[]bounds{quantum}, (*request).drop},
		api.Sleep:        {nil, (*request).sleep},
		api.Wake:         {[]bounds{slot}, (*request).wake},
		api.NewPort:      {[]bounds{slot, slot, label}, (*request).newPort},
		api.Send:         {[]bounds{slot, word}, (*request).send},
		api.Receive:      {[]bounds{slot}, (*request).receive},
	}
	if number < 0 || number >= len(table) || table[number].does == nil {
		return trap{}, false
	}
	return table[number], true
}

func (r *request) self(args ...int) (int, api.Errno) {
	return r.t.place(), api.OK
}

func (r *request) kind(args ...int) (int, api.Errno) {
	if err := r.reach(args[0]); err != api.OK {
		return 0, err
	}
	return r.k.kindIn(args[0]), api.OK
}

func (r *request) label(args ...int) (int, api.Errno) {
	o, err := r.find(args[0])
	if err != api.OK {
		return 0, err
	}
	return o.labelOf(), api.OK
}

func (r *request) newSegment(args ...int) (int, api.Errno) {
	in, slot, label := args[0], args[1], args[2]
	if err := r.mayMake(in, slot, label); err != api.OK {
		return 0, err
	}
	r.k.put(&segment{base: base{slot: slot, kind: api.Segment, label: label}})
	return 0, api.OK
}

func (r *request) readWord(args ...int) (int, api.Errno) {
	o, err := r.findToRead(args[0])
	if err != api.OK {
		return 0, err
	}
	s, ok := o.(*segment)
	if !ok {
		return 0, api.ErrKind
	}
	return s.words[args[1]], api.OK
}

func (r *request) writeWord(args ...int) (int, api.Errno) {
	o, err := r.findToWrite(args[0])
	if err != api.OK {
		return 0, err
	}
	s, ok := o.(*segment)
	if !ok {
		return 0, api.ErrKind
	}
	s.words[args[1]] = args[2]
	return 0, api.OK
}

func (r *request) newContainer(args ...int) (int, api.Errno) {
	in, slot, label := args[0], args[1], args[2]
	slots, quanta := span{args[3], args[4]}, span{args[5], args[6]}
	if err := r.mayMake(in, slot, label); err != api.OK {
		return 0, err
	}
	if err := r.mayHave(r.k.home(slot), slot, slots, quanta); err != api.OK {
		return 0, err
	}
	r.k.put(&container{
		base:   base{slot: slot, kind: api.Container, label: label},
		slots:  slots,
		quanta: quanta,
	})
	r.k.dropThreads(quanta)
	return 0, api.OK
}

func (r *request) free(args ...int) (int, api.Errno) {
	slot := args[0]
	// To reach the root nothing is asked, so that this counts first.
	if slot == 0 {
		return 0, api.ErrArg
	}
	o, err := r.find(slot)
	if err != api.OK {
		return 0, err
	}
	if err := r.mayWrite(r.k.home(slot)); err != api.OK {
		return 0, err
	}
	r.k.remove(o)
	return 0, api.OK
}

func (r *request) newThread(args ...int) (int, api.Errno) {
	in, slot, label, owns := args[0], args[1], args[2], args[3]
	if err := r.mayMake(in, slot, label); err != api.OK {
		return 0, err
	}
	// No check: to hand on what is owned lets nothing out, so nothing is needed for it.
	if !within(owns, r.t.owns) {
		return 0, api.ErrLabel
	}
	r.k.put(&thread{
		base:  base{slot: slot, kind: api.Thread, label: label},
		owns:  owns,
		awake: true,
	})
	return 0, api.OK
}

func (r *request) give(args ...int) (int, api.Errno) {
	quantum, slot := args[0], args[1]
	home, err := r.mayChange(quantum)
	if err != api.OK {
		return 0, err
	}
	o, err := r.find(slot)
	if err != api.OK {
		return 0, err
	}
	t, ok := o.(*thread)
	if !ok {
		return 0, api.ErrKind
	}
	// A thread hears when its turn comes, so it must be one that may hear of the quantum.
	if err := r.fits(home.labelOf(), t.labelOf()); err != api.OK {
		return 0, err
	}
	r.k.quanta[quantum] = t
	return 0, api.OK
}

func (r *request) drop(args ...int) (int, api.Errno) {
	quantum := args[0]
	if _, err := r.mayChange(quantum); err != api.OK {
		return 0, err
	}
	r.k.quanta[quantum] = nil
	return 0, api.OK
}

func (r *request) sleep(args ...int) (int, api.Errno) {
	r.t.awake = false
	return 0, api.OK
}

func (r *request) wake(args ...int) (int, api.Errno) {
	o, err := r.findToWrite(args[0])
	if err != api.OK {
		return 0, err
	}
	t, ok := o.(*thread)
	if !ok {
		return 0, api.ErrKind
	}
	t.awake = true
	return 0, api.OK
}

func (r *request) newPort(args ...int) (int, api.Errno) {
	in, slot, label := args[0], args[1], args[2]
	if err := r.mayMake(in, slot, label); err != api.OK {
		return 0, err
	}
	r.k.put(&port{
		base:  base{slot: slot, kind: api.Port, label: label},
		words: make(chan int, api.Room),
	})
	return 0, api.OK
}

func (r *request) send(args ...int) (int, api.Errno) {
	o, err := r.findToWrite(args[0])
	if err != api.OK {
		return 0, err
	}
	p, ok := o.(*port)
	if !ok {
		return 0, api.ErrKind
	}
	select {
	case p.words <- args[1]:
		return 0, api.OK
	default:
	}
	// Owning does not help here: who may not read the port does not hear that it is full.
	if within(p.labelOf(), r.t.labelOf()) {
		return 0, api.ErrFull
	}
	return 0, api.OK
}

func (r *request) receive(args ...int) (int, api.Errno) {
	o, err := r.findToRead(args[0])
	if err != api.OK {
		return 0, err
	}
	if err := r.mayWrite(o); err != api.OK {
		return 0, err
	}
	p, ok := o.(*port)
	if !ok {
		return 0, api.ErrKind
	}
	select {
	case word := <-p.words:
		return word, api.OK
	default:
		return 0, api.ErrEmpty
	}
}
