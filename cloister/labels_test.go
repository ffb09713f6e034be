package cloister

import (
	"fmt"
	"testing"

	"cloister/api"
)

// These tests lay threads and containers by hand, so that every label and ownership comes up.

// asThread gives a kernel whose current thread, in slot 1, has this label and owns this.
func asThread(label, owns int) *Kernel {
	k := Boot()
	t := k.layThread(1, label, owns)
	for q := range k.quanta {
		k.quanta[q] = t
	}
	return k
}

func (k *Kernel) layContainer(slot, label, first, end int) {
	k.layRanges(slot, label, span{first, end}, span{})
}

func (k *Kernel) layRanges(slot, label int, slots, quanta span) {
	k.put(&container{
		base:   base{slot: slot, kind: api.Container, label: label},
		slots:  slots,
		quanta: quanta,
	})
}

func (k *Kernel) layThread(slot, label, owns int) *thread {
	t := &thread{base: base{slot: slot, kind: api.Thread, label: label}, owns: owns, awake: true}
	k.put(t)
	return t
}

func (k *Kernel) laySegment(slot, label, word int) {
	s := &segment{base: base{slot: slot, kind: api.Segment, label: label}}
	s.words[0] = word
	k.put(s)
}

// all writes out everything that a kernel has, so that a change of any of it is seen.
func (k *Kernel) all() string {
	text := fmt.Sprintln(k.phase)
	for s, o := range k.slots {
		switch o := o.(type) {
		case nil:
		case *segment:
			text += fmt.Sprintln(s, *o)
		case *thread:
			text += fmt.Sprintln(s, *o)
		case *container:
			text += fmt.Sprintln(s, *o)
		default:
			panic("an object of an unknown kind")
		}
	}
	for q, t := range k.quanta {
		if t != nil {
			text += fmt.Sprintln("quantum", q, *t, k.holds(t))
		}
	}
	return text
}

// expect asks a trap, and that with an error nothing has changed.
func (k *Kernel) expect(t *testing.T, want api.Out, number int, args ...int) {
	t.Helper()
	before := k.all()
	got := k.Trap(number, args...)
	if got != want {
		t.Errorf("Trap(%d, %v) = %+v, want %+v, on\n%s", number, args, got, want, before)
	}
	if after := k.all(); got.Err != api.OK && after != before {
		t.Errorf("Trap(%d, %v) = %+v changed\n%s to\n%s", number, args, got, before, after)
	}
}

// tally goes through checks as the document tells them, category by category.
type tally struct {
	owns int
	out  api.Out
}

func (y *tally) needs(inner, outer int) {
	if y.out.Err != api.OK {
		return
	}
	needed := 0
	for c := 1; c <= api.MaxLabel; c *= 2 {
		if inner&c == 0 || outer&c != 0 {
			continue
		}
		if y.owns&c == 0 {
			y.out.Err = api.ErrLabel
			return
		}
		needed += c
	}
	y.out.Used |= needed
}

func (y *tally) stop(wrong bool, err api.Errno) {
	if wrong && y.out.Err == api.OK {
		y.out.Err = err
	}
}

const few = 8 // labels of three categories show every way in which four sets can lie to each other

// P3, P5: reading and writing at every label, of what is a segment and what is not.
func TestReadAndWriteByLabels(t *testing.T) {
	for n := range few * few * few {
		label, owns, x := n%few, n/few%few, n/few/few
		k := asThread(label, owns)
		k.laySegment(2, x, 41)
		k.layContainer(3, x, 20, 20)

		read := tally{owns: owns}
		read.needs(x, label)
		wrongKind := read
		wrongKind.stop(true, api.ErrKind)
		k.expect(t, wrongKind.out, api.Read, 3, 0)
		if read.out.Err == api.OK {
			read.out.Value = 41
		}
		k.expect(t, read.out, api.Read, 2, 0)

		write := tally{owns: owns}
		write.needs(label, x)
		wrongKind = write
		wrongKind.stop(true, api.ErrKind)
		k.expect(t, wrongKind.out, api.Write, 3, 0, 42)
		k.expect(t, write.out, api.Write, 2, 0, 42)
		if got, wrote := k.slots[2].(*segment).words[0], write.out.Err == api.OK; wrote != (got == 42) {
			t.Errorf("label %d, owns %d, segment %d: the word is %d behind %+v", label, owns, x, got, write.out)
		}
		k.expect(t, api.Out{Value: x}, api.Label, 2)
		k.expect(t, api.Out{Value: api.Segment}, api.Kind, 2)
	}
}

// P1, P3, P5: making, with the first thing that is wrong, at every label.
func TestMakingByLabels(t *testing.T) {
	for n := range few * few * few * few {
		label, owns, in, l := n%few, n/few%few, n/few/few%few, n/few/few/few
		k := asThread(label, owns)
		k.layContainer(2, in, 10, 20)
		k.laySegment(3, in, 0)
		k.laySegment(10, 0, 0)

		ask := tally{owns: owns}
		ask.needs(in, label)
		ask.needs(label, in)
		wrongKind, busy := ask, ask
		wrongKind.stop(true, api.ErrKind)
		busy.stop(true, api.ErrBusy)
		ask.stop(in&l != in, api.ErrLabel)
		ask.needs(label, l)

		k.expect(t, wrongKind.out, api.NewSegment, 3, 11, l)
		k.expect(t, wrongKind.out, api.NewSegment, 3, 10, l)
		k.expect(t, busy.out, api.NewSegment, 2, 10, l) // not free
		k.expect(t, busy.out, api.NewSegment, 2, 20, l) // not in this container
		k.expect(t, busy.out, api.NewSegment, 2, 0, l)
		k.expect(t, ask.out, api.NewSegment, 2, 19, l)
		made := k.slots[19] != nil
		if made != (ask.out.Err == api.OK) {
			t.Errorf("label %d, owns %d, container %d, l %d: made is %v", label, owns, in, l, made)
		}
		if made && *k.slots[19].(*segment) != (segment{base: base{19, api.Segment, l}}) {
			t.Errorf("made %+v", k.slots[19])
		}
	}
}

// P1, P3, P6: a container is made like anything else; what is wrong with its ranges counts behind that.
func TestNewContainerByLabels(t *testing.T) {
	for n := range few * few * few * few {
		label, owns, in, l := n%few, n/few%few, n/few/few%few, n/few/few/few
		k := asThread(label, owns)
		k.layRanges(2, in, span{10, 20}, span{4, 8})
		k.laySegment(3, in, 0)
		k.laySegment(10, 0, 0)
		k.layRanges(11, in, span{18, 19}, span{7, 8})

		ask := tally{owns: owns}
		ask.needs(in, label)
		ask.needs(label, in)
		wrongKind, taken := ask, ask
		wrongKind.stop(true, api.ErrKind)
		taken.stop(true, api.ErrBusy)
		ask.stop(in&l != in, api.ErrLabel)
		ask.needs(label, l)
		wrongRange := ask
		wrongRange.stop(true, api.ErrBusy)

		k.expect(t, wrongKind.out, api.NewContainer, 3, 12, l, 12, 13, 0, 8)
		k.expect(t, taken.out, api.NewContainer, 2, 10, l, 13, 15, 4, 6)
		k.expect(t, taken.out, api.NewContainer, 2, 20, l, 13, 15, 4, 6)
		k.expect(t, taken.out, api.NewContainer, 2, 18, l, 13, 15, 4, 6)
		k.expect(t, wrongRange.out, api.NewContainer, 2, 12, l, 12, 15, 4, 6) // its own slot
		k.expect(t, wrongRange.out, api.NewContainer, 2, 12, l, 10, 11, 4, 6) // not free
		k.expect(t, wrongRange.out, api.NewContainer, 2, 12, l, 9, 10, 4, 6)  // outside
		k.expect(t, wrongRange.out, api.NewContainer, 2, 12, l, 18, 19, 4, 6) // further inside
		k.expect(t, wrongRange.out, api.NewContainer, 2, 12, l, 13, 15, 3, 4)
		k.expect(t, wrongRange.out, api.NewContainer, 2, 12, l, 13, 15, 7, 8)
		k.expect(t, ask.out, api.NewContainer, 2, 12, l, 13, 15, 4, 6)
		made := k.slots[12] != nil
		if made != (ask.out.Err == api.OK) {
			t.Errorf("label %d, owns %d, container %d, l %d: made is %v", label, owns, in, l, made)
		}
		want := container{base: base{12, api.Container, l}, slots: span{13, 15}, quanta: span{4, 6}}
		if made && *k.slots[12].(*container) != want {
			t.Errorf("made %+v", k.slots[12])
		}
		for q := range api.Quanta {
			if lost := k.quanta[q] == nil; lost != (made && (q == 4 || q == 5)) {
				t.Errorf("quantum %d: no thread is %v, made is %v", q, lost, made)
			}
		}
	}
}

// P1, P3, P6: to free asks to reach the slot and to write where it lies; what goes does not matter.
func TestFreeByLabels(t *testing.T) {
	for n := range few * few * few * few {
		label, owns, outer, inner := n%few, n/few%few, n/few/few%few, n/few/few/few
		k := asThread(label, owns)
		k.layContainer(2, outer, 10, 20)
		k.layContainer(10, inner, 12, 16)
		k.laySegment(12, 7, 5)

		ask := tally{owns: owns}
		ask.needs(outer, label)
		ask.needs(inner, label)
		dead := ask
		dead.stop(true, api.ErrDead)
		ask.needs(label, inner)
		k.expect(t, api.Out{Err: api.ErrArg}, api.FreeSlot, 0)
		k.expect(t, dead.out, api.FreeSlot, 13)
		k.expect(t, ask.out, api.FreeSlot, 12)
		if gone := k.slots[12] == nil; gone != (ask.out.Err == api.OK) {
			t.Errorf("label %d, owns %d, containers %d %d: gone is %v", label, owns, outer, inner, gone)
		}

		ask = tally{owns: owns}
		ask.needs(outer, label)
		ask.needs(label, outer)
		k.expect(t, ask.out, api.FreeSlot, 10)
		ask = tally{owns: owns}
		ask.needs(label, 0)
		k.expect(t, ask.out, api.FreeSlot, 2)
	}
}

// P6: with a container all go that lie in it, the threads too, from quanta that lie elsewhere as well.
func TestFreedThreadsLoseAllQuanta(t *testing.T) {
	k := Boot()
	k.layRanges(2, 0, span{10, 20}, span{4, 8})
	k.layRanges(11, 0, span{13, 15}, span{6, 7})
	deep := k.layThread(13, 0, 0)
	k.laySegment(9, 0, 1)
	k.laySegment(10, 0, 1)
	k.laySegment(19, 0, 1)
	k.laySegment(20, 0, 1)
	k.quanta[3], k.quanta[6] = deep, deep
	k.expect(t, api.Out{}, api.FreeSlot, 2)
	for s, o := range k.slots {
		if here := o != nil; here != (s == 0 || s == 1 || s == 9 || s == 20) {
			t.Errorf("slot %d: something is there: %v", s, here)
		}
	}
	k.layThread(13, 0, 255)
	for q := range api.Quanta {
		want := api.Now{Phase: q, Thread: -1}
		if q < 3 {
			want.Thread = 1
		}
		if n := k.Now(); n != want {
			t.Errorf("%+v, want %+v", n, want)
		}
		if home := k.quantumHome(q); home.place() != 0 {
			t.Errorf("quantum %d lies in the container at %d", q, home.place())
		}
		k.Tick()
	}
}

// P3: reaching reads each container around a slot, the outermost first.
func TestReachFromTheRootOn(t *testing.T) {
	rows := []struct {
		slot, owns int
		want       api.Out
	}{
		{0, 0, api.Out{Value: api.Container}},
		{2, 0, api.Out{Value: api.Container}},
		{30, 0, api.Out{}},
		{10, 0, api.Out{Err: api.ErrLabel}},
		{10, 1, api.Out{Value: api.Container, Used: 1}},
		{19, 1, api.Out{Used: 1}},
		{12, 0, api.Out{Err: api.ErrLabel}},
		{12, 6, api.Out{Err: api.ErrLabel}},
		{12, 1, api.Out{Err: api.ErrLabel, Used: 1}},
		{12, 3, api.Out{Value: api.Segment, Used: 3}},
		{15, 255, api.Out{Used: 3}},
		{16, 255, api.Out{Used: 1}},
		{11, 255, api.Out{Used: 1}},
		{9, 255, api.Out{}},
		{20, 255, api.Out{}},
	}
	for _, r := range rows {
		k := asThread(0, r.owns)
		k.layContainer(10, 3, 12, 16)
		k.layContainer(2, 1, 10, 20)
		k.laySegment(12, 7, 5)
		k.expect(t, r.want, api.Kind, r.slot)
	}
	k := asThread(0, 3)
	k.layContainer(2, 1, 10, 20)
	k.layContainer(10, 3, 12, 16)
	k.laySegment(12, 7, 5)
	k.expect(t, api.Out{Value: 7, Used: 3}, api.Label, 12)
	k.expect(t, api.Out{Err: api.ErrDead, Used: 3}, api.Label, 13)
	k.expect(t, api.Out{Err: api.ErrLabel, Used: 3}, api.Read, 12, 0)
	k.expect(t, api.Out{Used: 3}, api.Write, 12, 0, 1)
	k.expect(t, api.Out{Err: api.ErrBusy}, api.NewSegment, 0, 13, 7)
	k.expect(t, api.Out{Err: api.ErrBusy, Used: 1}, api.NewSegment, 2, 13, 7)
	k.expect(t, api.Out{Err: api.ErrLabel, Used: 3}, api.NewSegment, 10, 13, 1)
	k.expect(t, api.Out{Used: 3}, api.NewSegment, 10, 13, 7)
}

// P1, P4: who is current when the phase's thread is asleep, gone or none; ErrIdle counts first.
func TestIdle(t *testing.T) {
	rows := []struct {
		name string
		do   func(k *Kernel)
	}{
		{"asleep", func(k *Kernel) { k.quanta[0].awake = false }},
		{"gone", func(k *Kernel) { k.slots[1] = nil }},
		{"replaced", func(k *Kernel) {
			other := *k.quanta[0]
			k.put(&other)
		}},
		{"no thread", func(k *Kernel) { k.quanta[0] = nil }},
	}
	for _, r := range rows {
		k := asThread(5, 255)
		r.do(k)
		if n := k.Now(); n != (api.Now{Phase: 0, Thread: -1, Label: 0}) {
			t.Errorf("%s: %+v", r.name, n)
		}
		k.expect(t, api.Out{Err: api.ErrIdle}, api.Self)
		k.expect(t, api.Out{Err: api.ErrIdle}, api.Kind, 99)
		k.expect(t, api.Out{Err: api.ErrIdle}, 99)
		k.expect(t, api.Out{Err: api.ErrIdle}, api.NewSegment, 0, 2, 255)
		k.Tick()
		if n := k.Now(); n.Phase != 1 {
			t.Errorf("%s: a tick did not go on: %+v", r.name, n)
		}
	}
}

// P4, P5: the current thread is that of the phase's quantum, and it is who asks.
func TestThreadsTakeTurns(t *testing.T) {
	k := Boot()
	other := k.layThread(9, 6, 2)
	k.quanta[3], k.quanta[4] = other, nil
	k.laySegment(2, 6, 8)
	wants := [api.Quanta]api.Now{3: {Phase: 3, Thread: 9, Label: 6}, 4: {Phase: 4, Thread: -1}}
	for i := range 2 * api.Quanta {
		q := i % api.Quanta
		want := wants[q]
		if q != 3 && q != 4 {
			want = api.Now{Phase: q, Thread: 1}
		}
		if n := k.Now(); n != want {
			t.Errorf("phase %d: %+v, want %+v", q, n, want)
		}
		switch q {
		case 3:
			k.expect(t, api.Out{Value: 9}, api.Self)
			k.expect(t, api.Out{Value: 8}, api.Read, 2, 0)
			k.expect(t, api.Out{Err: api.ErrLabel}, api.NewSegment, 0, 3, 6)
		case 4:
			k.expect(t, api.Out{Err: api.ErrIdle}, api.Self)
		default:
			k.expect(t, api.Out{Value: 1}, api.Self)
			k.expect(t, api.Out{Value: 8, Used: 6}, api.Read, 2, 0)
		}
		k.Tick()
	}
}

// P1: with an error nothing changes, at all arguments around the edges.
func TestErrorsChangeNothing(t *testing.T) {
	edges := []int{-1, 0, 1, 2, 3, 10, 12, 31, 32, 256}
	for _, lay := range []func() *Kernel{
		func() *Kernel { return asThread(4, 1) },
		func() *Kernel { return asThread(0, 255) },
	} {
		for n := range 19 * len(edges) * len(edges) {
			k := lay()
			k.layContainer(2, 1, 10, 20)
			k.laySegment(12, 3, 5)
			number, x, y := n%19-1, edges[n/19%len(edges)], edges[n/19/len(edges)]
			for _, z := range edges {
				for count := range 4 {
					k.changesOnlyIfOK(t, number, []int{x, y, z}[:count]...)
				}
				k.changesOnlyIfOK(t, number, 2, x, 1, y, z, 4, 5)
				k.changesOnlyIfOK(t, number, 0, 3, x, 4, 5, y, z)
			}
		}
	}
}

func (k *Kernel) changesOnlyIfOK(t *testing.T, number int, args ...int) {
	t.Helper()
	before := k.all()
	o := k.Trap(number, args...)
	if o.Err != api.OK && (o.Value != 0 || k.all() != before) {
		t.Fatalf("Trap(%d, %v) = %+v changed\n%s to\n%s", number, args, o, before, k.all())
	}
}
