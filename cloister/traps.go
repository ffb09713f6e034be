package cloister

import (
	"math"

	"cloister/api"
)

// trap is a row of the table: what each argument may be, and what is done.
type trap struct {
	takes []bounds
	does  func(r *request, args ...int) (int, api.Errno)
}

// bounds has both ends in it: a word may be any int, the greatest one too.
type bounds struct {
	least, most int
}

func (t trap) admits(args []int) bool {
	for i, b := range t.takes {
		if args[i] < b.least || args[i] > b.most {
			return false
		}
	}
	return true
}

// trapOf tells false if there is no trap of this number.
func trapOf(number int) (trap, bool) {
	slot := bounds{0, api.Slots - 1}
	label := bounds{0, api.MaxLabel}
	index := bounds{0, api.Words - 1}
	word := bounds{math.MinInt, math.MaxInt}
	table := [...]trap{
		api.Self:       {nil, (*request).self},
		api.Kind:       {[]bounds{slot}, (*request).kind},
		api.Label:      {[]bounds{slot}, (*request).label},
		api.NewSegment: {[]bounds{slot, slot, label}, (*request).newSegment},
		api.Read:       {[]bounds{slot, index}, (*request).readWord},
		api.Write:      {[]bounds{slot, index, word}, (*request).writeWord},
	}
	if number < 0 || number >= len(table) || table[number].does == nil {
		return trap{}, false
	}
	return table[number], true
}

func (r *request) self(args ...int) (int, api.Errno) {
	return r.t.place(), api.OK
}

func (r *request) kind(args ...int) (int, api.Errno) {
	if err := r.reach(args[0]); err != api.OK {
		return 0, err
	}
	o := r.k.slots[args[0]]
	if o == nil {
		return api.Free, api.OK
	}
	return o.kindOf(), api.OK
}

func (r *request) label(args ...int) (int, api.Errno) {
	o, err := r.find(args[0])
	if err != api.OK {
		return 0, err
	}
	return o.labelOf(), api.OK
}

func (r *request) newSegment(args ...int) (int, api.Errno) {
	in, slot, label := args[0], args[1], args[2]
	if err := r.mayMake(in, slot, label); err != api.OK {
		return 0, err
	}
	r.k.put(&segment{base: base{slot: slot, kind: api.Segment, label: label}})
	return 0, api.OK
}

func (r *request) readWord(args ...int) (int, api.Errno) {
	o, err := r.find(args[0])
	if err != api.OK {
		return 0, err
	}
	if err := r.mayRead(o); err != api.OK {
		return 0, err
	}
	s, ok := o.(*segment)
	if !ok {
		return 0, api.ErrKind
	}
	return s.words[args[1]], api.OK
}

func (r *request) writeWord(args ...int) (int, api.Errno) {
	o, err := r.find(args[0])
	if err != api.OK {
		return 0, err
	}
	if err := r.mayWrite(o); err != api.OK {
		return 0, err
	}
	s, ok := o.(*segment)
	if !ok {
		return 0, api.ErrKind
	}
	s.words[args[1]] = args[2]
	return 0, api.OK
}
