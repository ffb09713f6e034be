package cloister_test

import (
	"testing"

	"cloister/api"
	"cloister/cloister"
)

func TestSecondExample(t *testing.T) {
	k := cloister.Boot()
	play(t, k, []step{
		{7, with(0, 2, 1, 10, 20, 4, 8), tells(0, 0)},
		{9, with(2, 10, 1, 0), tells(0, 1)},
		{10, with(4, 10), tells(0, 1)},
	})
	for range 4 {
		k.Tick()
	}
	if n := k.Now(); n != (api.Now{Phase: 4, Thread: 10, Label: 1}) {
		t.Errorf("%+v", n)
	}
	play(t, k, []step{
		{4, with(0, 3, 1), fails(api.ErrLabel, 0)},
		{4, with(2, 11, 1), tells(0, 0)},
		{5, with(1, 0), fails(api.ErrKind, 0)},
	})
}

// P1, P3, P7: a thread is made like anything else; that all it owns is owned counts behind that.
func TestNewThreadByLabels(t *testing.T) {
	fourLabels(func(label, owns, in, l int) {
		y := try(t, label, owns)
		y.lay(api.NewContainer, 0, 2, in, 10, 20, 0, 0)
		y.lay(api.NewSegment, 0, 3, in)
		y.lay(api.NewThread, 2, 10, in, 0)

		want := tally{label: label, owns: owns}
		want.reads(in)
		want.writes(in)
		y.ask(want.or(api.ErrKind), api.NewThread, 3, 10, l, 255)
		y.ask(want.or(api.ErrBusy), api.NewThread, 2, 10, l, 255) // not free
		y.ask(want.or(api.ErrBusy), api.NewThread, 2, 20, l, 255) // not in this container
		want.stop(in&l != in, api.ErrLabel)
		want.fits(label, l)
		y.ask(want.or(api.ErrLabel), api.NewThread, 2, 11, l, 8)
		for o := range few {
			slot, may, before := 12+o, want, y.seen()
			may.stop(o&^owns != 0, api.ErrLabel)
			y.ask(may.out, api.NewThread, 2, slot, l, o)
			if may.ok() {
				before.kinds[slot], before.labels[slot] = api.Thread, l
			}
			if y.seen() != before {
				t.Errorf("label %d, owns %d, container %d, l %d, o %d: %+v is there, want %+v", label, owns, in, l, o, y.seen(), before)
			}
		}
	})
}

// P7: a new thread owns what it was given, no more and no less, and is awake.
func TestNewThreadOwns(t *testing.T) {
	for n := range few * few {
		label, owns := n%few, n/few
		y := try(t, label, owns)
		if y.seen().turns[1] != (api.Now{Phase: 1, Thread: 31, Label: label}) {
			t.Errorf("label %d, owns %d: %+v", label, owns, y.seen().turns[1])
		}
		for c := 1; c < few; c *= 2 {
			// Each of these needs just this one category.
			number, args := api.Read, with(2, 0)
			x := c
			if label&c != 0 {
				number, args = api.Write, with(2, 0, 5)
				x = label &^ c
			}
			want := tells(0, c)
			if owns&c == 0 {
				want = fails(api.ErrLabel, 0)
			}
			y.lay(api.NewSegment, 0, 2, x)
			y.ask(want, number, args...)
			y.lay(api.FreeSlot, 2)
		}
	}
}

// P7: nothing is needed to hand on what is owned, and what is not owned never comes by that way.
func TestNewThreadHandsOn(t *testing.T) {
	k := cloister.Boot()
	play(t, k, []step{
		{api.NewThread, with(0, 2, 0, 6), tells(0, 0)},
		{api.NewThread, with(0, 3, 255, 255), tells(0, 0)},
		{api.NewSegment, with(0, 9, 6), tells(0, 0)},
		{api.Give, with(1, 2), tells(0, 0)},
	})
	k.Tick()
	play(t, k, []step{
		{api.NewThread, with(0, 4, 0, 1), fails(api.ErrLabel, 0)},
		{api.NewThread, with(0, 4, 0, 7), fails(api.ErrLabel, 0)},
		{api.NewThread, with(0, 4, 0, 255), fails(api.ErrLabel, 0)},
		{api.NewThread, with(0, 4, 0, 2), tells(0, 0)},
		{api.NewThread, with(0, 5, 255, 6), tells(0, 0)},
		{api.Read, with(9, 0), tells(0, 6)},
		{api.Give, with(1, 4), tells(0, 0)},
		{api.Self, nil, tells(4, 0)},
		{api.Read, with(9, 0), fails(api.ErrLabel, 0)},
		{api.NewThread, with(0, 6, 0, 4), fails(api.ErrLabel, 0)},
		{api.NewThread, with(0, 6, 0, 6), fails(api.ErrLabel, 0)},
		{api.NewThread, with(0, 6, 0, 2), tells(0, 0)},
		{api.NewThread, with(0, 7, 0, 0), tells(0, 0)},
	})
}

// P1, P3, P7: what giving asks, in its order, at every label of the quantum's container and the thread.
func TestGiveByLabels(t *testing.T) {
	fourLabels(func(label, owns, in, x int) {
		y := try(t, label, owns)
		y.lay(api.NewContainer, 0, 2, in, 10, 20, 4, 8)
		y.lay(api.NewThread, 0, 3, x, 0)
		y.lay(api.NewSegment, 0, 4, x)
		y.lay(api.NewContainer, 0, 5, x, 20, 25, 0, 0)
		y.lay(api.NewThread, 5, 20, x, 0)

		want := tally{label: label, owns: owns}
		want.reads(in)
		want.writes(in)
		y.ask(want.or(api.ErrDead), api.Give, 4, 9)
		y.ask(want.or(api.ErrKind), api.Give, 4, 4)
		y.ask(want.or(api.ErrKind), api.Give, 4, 5)
		y.ask(want.or(api.ErrKind), api.Give, 4, 0)
		deep := want
		deep.reads(x)
		y.ask(deep.or(api.ErrDead), api.Give, 4, 21)
		want.fits(in, x)
		deep.fits(in, x)

		turns := y.seen().turns
		y.ask(want.out, api.Give, 4, 3)
		if want.ok() {
			turns[4] = api.Now{Phase: 4, Thread: 3, Label: x}
		}
		y.ask(deep.out, api.Give, 7, 20)
		if deep.ok() {
			turns[7] = api.Now{Phase: 7, Thread: 20, Label: x}
		}
		if y.seen().turns != turns {
			t.Errorf("label %d, owns %d, container %d, thread %d: %+v, want %+v", label, owns, in, x, y.seen().turns, turns)
		}
	})
}

// P1, P3, P7: a quantum that lies in containers in containers is reached from the root on.
func TestQuantaInContainersByLabels(t *testing.T) {
	fourLabels(func(label, owns, outer, inner int) {
		if outer&^inner != 0 {
			return
		}
		y := try(t, label, owns)
		// The inner one's slot is below the outer one's, and it has all of its quanta but one.
		y.lay(api.NewContainer, 0, 20, outer, 10, 20, 4, 8)
		y.lay(api.NewContainer, 20, 11, inner, 12, 16, 5, 8)
		y.lay(api.NewThread, 0, 3, 7, 0)
		for q := 4; q < 7; q++ {
			y.lay(api.Give, q, 1)
		}

		far := tally{label: label, owns: owns}
		far.reads(outer)
		near := far
		far.reads(inner)
		far.writes(inner)
		near.writes(outer)
		rooted := tally{label: label, owns: owns}
		rooted.writes(0)
		y.ask(far.or(api.ErrDead), api.Give, 7, 9)
		y.ask(near.or(api.ErrDead), api.Give, 4, 9)
		y.ask(rooted.or(api.ErrDead), api.Give, 3, 9)

		turns := y.seen().turns
		y.ask(far.out, api.Drop, 5)
		y.ask(far.out, api.Drop, 7)
		y.ask(far.out, api.Give, 6, 3)
		if far.ok() {
			turns[5], turns[6] = api.Now{Phase: 5, Thread: -1}, api.Now{Phase: 6, Thread: 3, Label: 7}
		}
		y.ask(near.out, api.Drop, 4)
		if near.ok() {
			turns[4] = api.Now{Phase: 4, Thread: -1}
		}
		y.ask(rooted.out, api.Drop, 3)
		y.ask(rooted.out, api.Give, 2, 3)
		if rooted.ok() {
			turns[3], turns[2] = api.Now{Phase: 3, Thread: -1}, api.Now{Phase: 2, Thread: 3, Label: 7}
		}
		if y.seen().turns != turns {
			t.Errorf("label %d, owns %d, containers %d %d: %+v, want %+v", label, owns, outer, inner, y.seen().turns, turns)
		}
	})
}

// P1, P3, P7: waking asks to reach the slot and to write the thread.
func TestWakeByLabels(t *testing.T) {
	fourLabels(func(label, owns, in, x int) {
		if in&^x != 0 {
			return
		}
		y := try(t, label, owns)
		y.lay(api.NewContainer, 0, 2, in, 10, 20, 0, 0)
		y.lay(api.NewThread, 2, 10, x, 0)
		y.lay(api.NewSegment, 2, 11, x)
		y.lay(api.Give, 2, 10)
		y.lay(api.Give, 5, 10)
		goTo(y.k, 2)
		play(t, y.k, []step{{api.Sleep, nil, tells(0, 0)}})
		y.stale = true

		want := tally{label: label, owns: owns}
		want.reads(in)
		y.ask(want.or(api.ErrDead), api.Wake, 12)
		want.writes(x)
		y.ask(want.or(api.ErrKind), api.Wake, 11)
		y.ask(want.out, api.Wake, 10)
		for _, q := range with(2, 5) {
			turn := api.Now{Phase: q, Thread: -1}
			if want.ok() {
				turn = api.Now{Phase: q, Thread: 10, Label: x}
			}
			if y.seen().turns[q] != turn {
				t.Errorf("label %d, owns %d, container %d, thread %d: %+v, want %+v", label, owns, in, x, y.seen().turns[q], turn)
			}
		}
		y.ask(want.out, api.Wake, 10) // it may be awake already

		other := tally{label: label, owns: owns}
		other.writes(in)
		y.ask(other.or(api.ErrKind), api.Wake, 2)
		other = tally{label: label, owns: owns}
		other.writes(0)
		y.ask(other.or(api.ErrKind), api.Wake, 0)
		y.ask(other.out, api.Wake, 1)
	})
}

// P4, P7: each quantum has its own thread, which one thread may be in many of them.
func TestThreadsTakeTurns(t *testing.T) {
	k := cloister.Boot()
	play(t, k, []step{
		{api.NewThread, with(0, 9, 6, 2), tells(0, 0)},
		{api.NewThread, with(0, 31, 255, 0), tells(0, 0)},
		{api.NewSegment, with(0, 2, 6), tells(0, 0)},
		{api.Write, with(2, 0, 8), tells(0, 0)},
		{api.Give, with(3, 9), tells(0, 0)},
		{api.Give, with(7, 31), tells(0, 0)},
		{api.Drop, with(4), tells(0, 0)},
		{api.Drop, with(4), tells(0, 0)},
		{api.Give, with(5, 9), tells(0, 0)},
		{api.Give, with(6, 9), tells(0, 0)},
		{api.Give, with(6, 1), tells(0, 0)},
	})
	turns := [api.Quanta]int{1, 1, 1, 9, -1, 9, 1, 31}
	labels := map[int]int{9: 6, 31: 255}
	steps := map[int][]step{
		-1: {
			{api.Self, nil, fails(api.ErrIdle, 0)},
			{api.Give, with(4, 1), fails(api.ErrIdle, 0)},
		},
		1: {
			{api.Self, nil, tells(1, 0)},
			{api.Read, with(2, 0), tells(8, 6)},
			{api.Label, with(9), tells(6, 0)},
		},
		9: {
			{api.Self, nil, tells(9, 0)},
			{api.Read, with(2, 0), tells(8, 0)},
			{api.NewSegment, with(0, 3, 6), fails(api.ErrLabel, 0)},
			{api.Give, with(3, 1), fails(api.ErrLabel, 0)},
			{api.Drop, with(3), fails(api.ErrLabel, 0)},
		},
		31: {
			{api.Self, nil, tells(31, 0)},
			{api.Read, with(2, 0), tells(8, 0)},
			{api.Write, with(2, 0, 9), fails(api.ErrLabel, 0)},
			{api.Wake, with(9), fails(api.ErrLabel, 0)},
			{api.Wake, with(31), tells(0, 0)},
		},
	}
	for i := range 2 * api.Quanta {
		phase := i % api.Quanta
		want := api.Now{Phase: phase, Thread: turns[phase], Label: labels[turns[phase]]}
		if n := k.Now(); n != want {
			t.Errorf("behind %d ticks: %+v, want %+v", i, n, want)
		}
		play(t, k, steps[want.Thread])
		k.Tick()
	}
}

// P4, P7: giving and dropping the quantum of the phase itself counts at once.
func TestGiveAndDropTheCurrentQuantum(t *testing.T) {
	k := cloister.Boot()
	play(t, k, []step{
		{api.NewThread, with(0, 2, 4, 4), tells(0, 0)},
		{api.Give, with(0, 2), tells(0, 0)},
		{api.Self, nil, tells(2, 0)},
		{api.NewSegment, with(0, 3, 0), tells(0, 4)},
		{api.Give, with(0, 1), tells(0, 4)},
		{api.Self, nil, tells(1, 0)},
		{api.NewSegment, with(0, 4, 0), tells(0, 0)},
		{api.Give, with(0, 2), tells(0, 0)},
		{api.Drop, with(0), tells(0, 4)},
		{api.Self, nil, fails(api.ErrIdle, 0)},
		{api.Drop, with(0), fails(api.ErrIdle, 0)},
	})
	if got := threads(k); got != [api.Quanta]int{-1, 1, 1, 1, 1, 1, 1, 1} {
		t.Errorf("%v", got)
	}
}

// P4, P7: a thread that is asleep has no turn in any of its quanta, until one wakes it.
func TestSleepAndWake(t *testing.T) {
	k := cloister.Boot()
	play(t, k, []step{
		{api.NewThread, with(0, 2, 0, 0), tells(0, 0)},
		{api.NewThread, with(0, 3, 0, 0), tells(0, 0)},
		{api.Give, with(2, 2), tells(0, 0)},
		{api.Give, with(4, 2), tells(0, 0)},
		{api.Give, with(5, 3), tells(0, 0)},
	})
	goTo(k, 2)
	play(t, k, []step{
		{api.Wake, with(2), tells(0, 0)}, // itself, awake as it is
		{api.Self, nil, tells(2, 0)},
		{api.Sleep, with(0), fails(api.ErrTrap, 0)},
		{api.Self, nil, tells(2, 0)},
		{api.Sleep, nil, tells(0, 0)},
		{api.Sleep, nil, fails(api.ErrIdle, 0)},
		{api.Wake, with(2), fails(api.ErrIdle, 0)},
		{99, nil, fails(api.ErrIdle, 0)},
	})
	for range 2 {
		if got := threads(k); got != [api.Quanta]int{1, 1, -1, 1, -1, 3, 1, 1} {
			t.Errorf("asleep: %v", got)
		}
	}
	goTo(k, 0)
	play(t, k, []step{
		{api.Kind, with(2), tells(api.Thread, 0)},
		{api.Give, with(6, 2), tells(0, 0)}, // it gets a quantum, but it sleeps on
		{api.Wake, with(3), tells(0, 0)},
	})
	if got := threads(k); got != [api.Quanta]int{1, 1, -1, 1, -1, 3, -1, 1} {
		t.Errorf("asleep, with another quantum: %v", got)
	}
	goTo(k, 5)
	play(t, k, []step{{api.Wake, with(2), tells(0, 0)}})
	if got := threads(k); got != [api.Quanta]int{1, 1, 2, 1, 2, 3, 2, 1} {
		t.Errorf("awake: %v", got)
	}
	goTo(k, 4)
	play(t, k, []step{{api.Sleep, nil, tells(0, 0)}})
	goTo(k, 3)
	play(t, k, []step{{api.Sleep, nil, tells(0, 0)}})
	if got := threads(k); got != [api.Quanta]int{-1, -1, -1, -1, -1, 3, -1, -1} {
		t.Errorf("the first one asleep too: %v", got)
	}
}

// P4, P7: a quantum has the very thread that it was given, not what comes to lie in its slot.
func TestAnotherThreadInTheSlot(t *testing.T) {
	k := cloister.Boot()
	play(t, k, []step{
		{api.NewThread, with(0, 2, 3, 0), tells(0, 0)},
		{api.Give, with(2, 2), tells(0, 0)},
		{api.Give, with(6, 2), tells(0, 0)},
	})
	goTo(k, 6)
	play(t, k, []step{{api.Sleep, nil, tells(0, 0)}})
	goTo(k, 0)
	play(t, k, []step{{api.FreeSlot, with(2), tells(0, 0)}})
	without := [api.Quanta]int{1, 1, -1, 1, 1, 1, -1, 1}
	if got := threads(k); got != without {
		t.Errorf("gone: %v", got)
	}
	play(t, k, []step{
		{api.Give, with(2, 2), fails(api.ErrDead, 0)},
		{api.Wake, with(2), fails(api.ErrDead, 0)},
		{api.NewThread, with(0, 2, 3, 0), tells(0, 0)}, // just like the one that has gone
		{api.Wake, with(2), tells(0, 0)},
	})
	if got := threads(k); got != without {
		t.Errorf("another one in its slot: %v", got)
	}
	play(t, k, []step{{api.Give, with(6, 2), tells(0, 0)}})
	if got := threads(k); got != [api.Quanta]int{1, 1, -1, 1, 1, 1, 2, 1} {
		t.Errorf("the other one was given a quantum: %v", got)
	}
	play(t, k, []step{
		{api.FreeSlot, with(2), tells(0, 0)},
		{api.NewSegment, with(0, 2, 3), tells(0, 0)},
		{api.Give, with(6, 2), fails(api.ErrKind, 0)},
		{api.Wake, with(2), fails(api.ErrKind, 0)},
	})
	if got := threads(k); got != without {
		t.Errorf("a segment in its slot: %v", got)
	}
}

// P6, P7: with a container the threads in it go, from quanta that lie elsewhere as well.
func TestFreedThreadsLoseAllQuanta(t *testing.T) {
	k := cloister.Boot()
	play(t, k, []step{
		{api.NewContainer, with(0, 2, 0, 10, 20, 4, 8), tells(0, 0)},
		{api.NewContainer, with(2, 11, 0, 13, 15, 6, 7), tells(0, 0)},
		{api.NewThread, with(11, 13, 0, 0), tells(0, 0)},
		{api.Give, with(3, 13), tells(0, 0)},
		{api.Give, with(5, 1), tells(0, 0)},
		{api.Give, with(6, 13), tells(0, 0)},
		{api.Give, with(7, 13), tells(0, 0)},
	})
	if got := threads(k); got != [api.Quanta]int{1, 1, 1, 13, -1, 1, 13, 13} {
		t.Errorf("at first: %v", got)
	}
	play(t, k, []step{
		{api.FreeSlot, with(2), tells(0, 0)},
		{api.NewThread, with(0, 13, 0, 0), tells(0, 0)},
	})
	// Quantum 5 lay in the container: it has lost its thread, though that is still there.
	if got := threads(k); got != [api.Quanta]int{1, 1, 1, -1, -1, -1, -1, -1} {
		t.Errorf("behind Free: %v", got)
	}
	play(t, k, []step{{api.Give, with(6, 13), tells(0, 0)}})
	if got := threads(k); got != [api.Quanta]int{1, 1, 1, -1, -1, -1, 13, -1} {
		t.Errorf("given again: %v", got)
	}
}

// P6, P7: the quanta of a new container have no threads; who had them keeps its others.
func TestNewContainerTakesQuanta(t *testing.T) {
	k := cloister.Boot()
	play(t, k, []step{
		{api.NewThread, with(0, 2, 0, 0), tells(0, 0)},
		{api.Give, with(3, 2), tells(0, 0)},
		{api.Give, with(4, 2), tells(0, 0)},
		{api.NewContainer, with(0, 3, 4, 10, 20, 4, 6), tells(0, 0)},
	})
	if got := threads(k); got != [api.Quanta]int{1, 1, 1, 2, -1, -1, 1, 1} {
		t.Errorf("%v", got)
	}
	goTo(k, 3)
	play(t, k, []step{
		{api.Give, with(4, 2), fails(api.ErrLabel, 0)},
		{api.Drop, with(4), fails(api.ErrLabel, 0)},
		{api.Give, with(6, 2), tells(0, 0)},
		{api.Drop, with(7), tells(0, 0)},
	})
	if got := threads(k); got != [api.Quanta]int{1, 1, 1, 2, -1, -1, 2, -1} {
		t.Errorf("%v", got)
	}
}

// P5, P6, P7: a thread that owns nothing, in a container of its own label, does all there.
func TestLifeInAContainer(t *testing.T) {
	k := cloister.Boot()
	play(t, k, []step{
		{api.NewContainer, with(0, 2, 1, 10, 20, 4, 8), tells(0, 0)},
		{api.NewThread, with(2, 10, 1, 0), tells(0, 1)},
		{api.Give, with(4, 10), tells(0, 1)},
	})
	goTo(k, 4)
	play(t, k, []step{
		{api.NewContainer, with(2, 11, 3, 12, 15, 6, 8), tells(0, 0)},
		{api.NewThread, with(2, 16, 3, 0), tells(0, 0)},
		{api.NewThread, with(2, 17, 0, 0), fails(api.ErrLabel, 0)},
		{api.NewThread, with(2, 17, 2, 0), fails(api.ErrLabel, 0)},
		{api.NewThread, with(11, 12, 3, 0), fails(api.ErrLabel, 0)},
		{api.Kind, with(12), fails(api.ErrLabel, 0)},
		{api.Give, with(5, 16), tells(0, 0)},
		{api.Give, with(6, 16), fails(api.ErrLabel, 0)},
		{api.Drop, with(6), fails(api.ErrLabel, 0)},
		{api.Give, with(3, 16), fails(api.ErrLabel, 0)},
		{api.Give, with(5, 1), fails(api.ErrLabel, 0)},
		{api.Wake, with(16), tells(0, 0)},
		{api.Wake, with(1), fails(api.ErrLabel, 0)},
		{api.FreeSlot, with(1), fails(api.ErrLabel, 0)},
		{api.FreeSlot, with(2), fails(api.ErrLabel, 0)},
	})
	k.Tick()
	play(t, k, []step{
		{api.Self, nil, tells(16, 0)},
		{api.NewThread, with(11, 12, 3, 0), tells(0, 0)},
		{api.NewThread, with(2, 17, 3, 0), fails(api.ErrLabel, 0)},
		{api.Give, with(6, 12), tells(0, 0)},
		{api.Give, with(6, 10), fails(api.ErrLabel, 0)},
		{api.Give, with(5, 12), fails(api.ErrLabel, 0)},
		{api.Drop, with(5), fails(api.ErrLabel, 0)},
		{api.Wake, with(10), fails(api.ErrLabel, 0)},
		{api.Wake, with(12), tells(0, 0)},
		{api.FreeSlot, with(10), fails(api.ErrLabel, 0)},
		{api.Sleep, nil, tells(0, 0)},
	})
	if got := threads(k); got != [api.Quanta]int{1, 1, 1, 1, 10, -1, 12, -1} {
		t.Errorf("%v", got)
	}
	goTo(k, 4)
	play(t, k, []step{{api.FreeSlot, with(11), tells(0, 0)}})
	if got := threads(k); got != [api.Quanta]int{1, 1, 1, 1, 10, -1, -1, -1} {
		t.Errorf("%v", got)
	}
}

// P1, P7: of several things that are wrong the first one counts.
func TestThreadsOrderOfErrors(t *testing.T) {
	y := try(t, 1, 2)
	y.lay(api.NewContainer, 0, 2, 2, 10, 20, 4, 8)
	y.lay(api.NewContainer, 0, 3, 3, 21, 25, 0, 0)
	y.lay(api.NewThread, 0, 4, 0, 0)
	y.ask(fails(api.ErrTrap, 0), api.NewThread, 99, 99, 99)
	y.ask(fails(api.ErrTrap, 0), api.Give, 99)
	y.ask(fails(api.ErrTrap, 0), api.Give, 99, 99, 99)
	y.ask(fails(api.ErrTrap, 0), api.Drop)
	y.ask(fails(api.ErrTrap, 0), api.Drop, 99, 99)
	y.ask(fails(api.ErrTrap, 0), api.Sleep, 99)
	y.ask(fails(api.ErrTrap, 0), api.Wake)
	y.ask(fails(api.ErrTrap, 0), api.Wake, 99, 99)
	y.ask(fails(api.ErrArg, 0), api.NewThread, 9, 0, 0, 256)
	y.ask(fails(api.ErrArg, 0), api.NewThread, 9, 0, 0, -1)
	y.ask(fails(api.ErrArg, 0), api.NewThread, 9, 0, 256, 0)
	y.ask(fails(api.ErrArg, 0), api.NewThread, 9, 32, 0, 0)
	y.ask(fails(api.ErrArg, 0), api.Give, 8, 9)
	y.ask(fails(api.ErrArg, 0), api.Give, 4, 32)
	y.ask(fails(api.ErrArg, 0), api.Give, -1, 9)
	y.ask(fails(api.ErrArg, 0), api.Drop, 8)
	y.ask(fails(api.ErrArg, 0), api.Wake, 32)
	// To reach the quantum uses 2; to write where it lies fails.
	y.ask(fails(api.ErrLabel, 2), api.Give, 4, 9)
	y.ask(fails(api.ErrLabel, 2), api.Drop, 4)
	// The root can not be written, so it does not count that nothing is in the slot.
	y.ask(fails(api.ErrLabel, 0), api.Give, 2, 9)
	y.ask(fails(api.ErrDead, 0), api.Wake, 9)
	y.ask(fails(api.ErrLabel, 0), api.Wake, 0)
	y.ask(fails(api.ErrLabel, 0), api.NewThread, 0, 0, 0, 255)
	y.ask(fails(api.ErrDead, 0), api.NewThread, 9, 0, 0, 255)
	y.ask(fails(api.ErrBusy, 2), api.NewThread, 3, 0, 0, 255)
	y.ask(fails(api.ErrLabel, 2), api.NewThread, 3, 21, 2, 255)
	y.ask(fails(api.ErrLabel, 2), api.NewThread, 3, 21, 3, 255)
	y.ask(fails(api.ErrDead, 2), api.NewThread, 21, 21, 3, 255)
	y.ask(tells(0, 2), api.NewThread, 3, 21, 3, 2)
	y.ask(fails(api.ErrBusy, 2), api.NewThread, 3, 21, 3, 2)
	y.ask(tells(0, 2), api.Wake, 21)
}
