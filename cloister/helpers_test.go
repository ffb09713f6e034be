package cloister_test

import (
	"slices"
	"testing"

	"cloister/api"
	"cloister/cloister"
)

// step is a trap, and what it must tell.
type step struct {
	number int
	args   []int
	want   api.Out
}

func play(t *testing.T, k *cloister.Kernel, steps []step) {
	t.Helper()
	for i, s := range steps {
		if got := k.Trap(s.number, s.args...); got != s.want {
			t.Errorf("step %d: Trap(%d, %v) = %+v, want %+v", i, s.number, s.args, got, s.want)
		}
	}
}

// counts tells how many arguments each trap has.
var counts = map[int]int{
	api.Self: 0, api.Kind: 1, api.Label: 1, api.NewSegment: 3, api.Read: 2, api.Write: 3,
	api.NewContainer: 7, api.FreeSlot: 1,
	api.NewThread: 4, api.Give: 2, api.Drop: 1, api.Sleep: 0, api.Wake: 1,
	api.NewPort: 3, api.Send: 2, api.Receive: 1,
}

func with(args ...int) []int { return args }

func tells(value, used int) api.Out { return api.Out{Value: value, Used: used} }

func fails(err api.Errno, used int) api.Out { return api.Out{Err: err, Used: used} }

// goTo ticks until the phase is this one.
func goTo(k *cloister.Kernel, phase int) {
	for k.Now().Phase != phase {
		k.Tick()
	}
}

// threads tells the current thread of each quantum, from the next phase on, round to this one.
func threads(k *cloister.Kernel) [api.Quanta]int {
	var slots [api.Quanta]int
	for range api.Quanta {
		k.Tick()
		n := k.Now()
		slots[n.Phase] = n.Thread
	}
	return slots
}

// trial is a kernel with a thread that is tried, in slot 31, current in phase 1. In phase 0 the
// first thread is, which owns all: it lays out what the test needs, and looks what has become of it.
type trial struct {
	*testing.T
	k     *cloister.Kernel
	was   sight
	stale bool // was is not how it is any more
}

func try(t *testing.T, label, owns int) *trial {
	t.Helper()
	y := &trial{T: t, k: cloister.Boot()}
	y.lay(api.NewThread, 0, 31, label, owns)
	y.lay(api.Give, 1, 31)
	return y
}

func (y *trial) lay(number int, args ...int) {
	y.Helper()
	goTo(y.k, 0)
	if o := y.k.Trap(number, args...); o.Err != api.OK {
		y.Fatalf("Trap(%d, %v) = %+v", number, args, o)
	}
	y.stale = true
}

// seen tells how it is.
func (y *trial) seen() sight {
	y.Helper()
	if y.stale {
		y.was, y.stale = look(y.T, y.k), false
	}
	return y.was
}

// ask asks a trap of the thread that is tried, and that with an error nothing has changed.
func (y *trial) ask(want api.Out, number int, args ...int) {
	y.Helper()
	was := y.seen()
	goTo(y.k, 1)
	who, view := y.k.Now(), y.k.View(api.MaxLabel)
	got := y.k.Trap(number, args...)
	if got != want {
		y.Errorf("Trap(%d, %v) = %+v, want %+v, by %+v", number, args, got, want, who)
	}
	if is := y.k.View(api.MaxLabel); got.Err != api.OK && !slices.Equal(is, view) {
		y.Errorf("Trap(%d, %v) = %+v changed the view\n%v to\n%v", number, args, got, view, is)
	}
	y.stale = true
	if is := y.seen(); got.Err != api.OK && is != was {
		y.Errorf("Trap(%d, %v) = %+v changed\n%+v to\n%+v", number, args, got, was, is)
	}
}

// sight is what the first thread can see: who is current when, and what is in the slots.
type sight struct {
	turns  [api.Quanta]api.Now
	kinds  [api.Slots]int
	labels [api.Slots]int
	words  [api.Slots][api.Words]int
}

// look goes round all phases, and leaves the kernel in phase 0.
func look(t *testing.T, k *cloister.Kernel) sight {
	t.Helper()
	var s sight
	goTo(k, 0)
	for q := range s.turns {
		s.turns[q] = k.Now()
		k.Tick()
	}
	if s.turns[0].Thread != 1 {
		t.Fatalf("the first thread is not current: %+v", s.turns[0])
	}
	for slot := range s.kinds {
		s.kinds[slot] = k.Trap(api.Kind, slot).Value
		if s.kinds[slot] == api.Free {
			continue
		}
		s.labels[slot] = k.Trap(api.Label, slot).Value
		if s.kinds[slot] != api.Segment {
			continue
		}
		for i := range s.words[slot] {
			s.words[slot][i] = k.Trap(api.Read, slot, i).Value
		}
	}
	return s
}

// tally goes through checks as the document tells them, category by category.
type tally struct {
	label, owns int // of the thread that asks
	out         api.Out
}

func (y *tally) reads(x int)  { y.fits(x, y.label) }
func (y *tally) writes(x int) { y.fits(y.label, x) }

func (y *tally) fits(inner, outer int) {
	if y.out.Err != api.OK {
		return
	}
	needed := 0
	for c := 1; c <= api.MaxLabel; c *= 2 {
		if inner&c == 0 || outer&c != 0 {
			continue
		}
		if y.owns&c == 0 {
			y.out.Err = api.ErrLabel
			return
		}
		needed += c
	}
	y.out.Used |= needed
}

func (y *tally) stop(wrong bool, err api.Errno) {
	if wrong && y.out.Err == api.OK {
		y.out.Err = err
	}
}

// or tells what the trap must tell if this is wrong behind all checks so far.
func (y tally) or(err api.Errno) api.Out {
	y.stop(true, err)
	return y.out
}

func (y tally) ok() bool { return y.out.Err == api.OK }

const few = 8 // labels of three categories show every way in which four sets can lie to each other

// fourLabels calls with every choice of four labels of three categories.
func fourLabels(each func(a, b, c, d int)) {
	for n := range few * few * few * few {
		each(n%few, n/few%few, n/few/few%few, n/few/few/few)
	}
}
