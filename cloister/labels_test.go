package cloister

import (
	"fmt"
	"testing"

	"cloister/api"
)

// These tests lay threads and containers by hand, so that every label and ownership comes up.

// asThread gives a kernel whose current thread, in slot 1, has this label and owns this.
func asThread(label, owns int) *Kernel {
	k := Boot()
	t := &thread{base: base{slot: 1, kind: api.Thread, label: label}, owns: owns, awake: true}
	k.put(t)
	for q := range k.quanta {
		k.quanta[q] = t
	}
	return k
}

func (k *Kernel) layContainer(slot, label, first, end int) {
	k.put(&container{
		base:  base{slot: slot, kind: api.Container, label: label},
		slots: span{first, end},
	})
}

func (k *Kernel) laySegment(slot, label, word int) {
	s := &segment{base: base{slot: slot, kind: api.Segment, label: label}}
	s.words[0] = word
	k.put(s)
}

// all writes out everything that a kernel has, so that a change of any of it is seen.
func (k *Kernel) all() string {
	text := fmt.Sprintln(k.phase)
	for s, o := range k.slots {
		switch o := o.(type) {
		case nil:
		case *segment:
			text += fmt.Sprintln(s, *o)
		case *thread:
			text += fmt.Sprintln(s, *o)
		case *container:
			text += fmt.Sprintln(s, *o)
		default:
			panic("an object of an unknown kind")
		}
	}
	for q, t := range k.quanta {
		if t != nil {
			text += fmt.Sprintln("quantum", q, *t, k.holds(t))
		}
	}
	return text
}

// expect asks a trap, and that with an error nothing has changed.
func (k *Kernel) expect(t *testing.T, want api.Out, number int, args ...int) {
	t.Helper()
	before := k.all()
	got := k.Trap(number, args...)
	if got != want {
		t.Errorf("Trap(%d, %v) = %+v, want %+v, on\n%s", number, args, got, want, before)
	}
	if after := k.all(); got.Err != api.OK && after != before {
		t.Errorf("Trap(%d, %v) = %+v changed\n%s to\n%s", number, args, got, before, after)
	}
}

// tally goes through checks as the document tells them, category by category.
type tally struct {
	owns int
	out  api.Out
}

func (y *tally) needs(inner, outer int) {
	if y.out.Err != api.OK {
		return
	}
	needed := 0
	for c := 1; c <= api.MaxLabel; c *= 2 {
		if inner&c == 0 || outer&c != 0 {
			continue
		}
		if y.owns&c == 0 {
			y.out.Err = api.ErrLabel
			return
		}
		needed += c
	}
	y.out.Used |= needed
}

func (y *tally) stop(wrong bool, err api.Errno) {
	if wrong && y.out.Err == api.OK {
		y.out.Err = err
	}
}

const few = 8 // labels of three categories show every way in which four sets can lie to each other

// P3, P5: reading and writing at every label, of what is a segment and what is not.
func TestReadAndWriteByLabels(t *testing.T) {
	for n := range few * few * few {
		label, owns, x := n%few, n/few%few, n/few/few
		k := asThread(label, owns)
		k.laySegment(2, x, 41)
		k.layContainer(3, x, 20, 20)

		read := tally{owns: owns}
		read.needs(x, label)
		wrongKind := read
		wrongKind.stop(true, api.ErrKind)
		k.expect(t, wrongKind.out, api.Read, 3, 0)
		if read.out.Err == api.OK {
			read.out.Value = 41
		}
		k.expect(t, read.out, api.Read, 2, 0)

		write := tally{owns: owns}
		write.needs(label, x)
		wrongKind = write
		wrongKind.stop(true, api.ErrKind)
		k.expect(t, wrongKind.out, api.Write, 3, 0, 42)
		k.expect(t, write.out, api.Write, 2, 0, 42)
		if got, wrote := k.slots[2].(*segment).words[0], write.out.Err == api.OK; wrote != (got == 42) {
			t.Errorf("label %d, owns %d, segment %d: the word is %d behind %+v", label, owns, x, got, write.out)
		}
		k.expect(t, api.Out{Value: x}, api.Label, 2)
		k.expect(t, api.Out{Value: api.Segment}, api.Kind, 2)
	}
}

// P1, P3, P5: making, with the first thing that is wrong, at every label.
func TestMakingByLabels(t *testing.T) {
	for n := range few * few * few * few {
		label, owns, in, l := n%few, n/few%few, n/few/few%few, n/few/few/few
		k := asThread(label, owns)
		k.layContainer(2, in, 10, 20)
		k.laySegment(3, in, 0)
		k.laySegment(10, 0, 0)

		ask := tally{owns: owns}
		ask.needs(in, label)
		ask.needs(label, in)
		wrongKind, busy := ask, ask
		wrongKind.stop(true, api.ErrKind)
		busy.stop(true, api.ErrBusy)
		ask.stop(in&l != in, api.ErrLabel)
		ask.needs(label, l)

		k.expect(t, wrongKind.out, api.NewSegment, 3, 11, l)
		k.expect(t, wrongKind.out, api.NewSegment, 3, 10, l)
		k.expect(t, busy.out, api.NewSegment, 2, 10, l) // not free
		k.expect(t, busy.out, api.NewSegment, 2, 20, l) // not in this container
		k.expect(t, busy.out, api.NewSegment, 2, 0, l)
		k.expect(t, ask.out, api.NewSegment, 2, 19, l)
		made := k.slots[19] != nil
		if made != (ask.out.Err == api.OK) {
			t.Errorf("label %d, owns %d, container %d, l %d: made is %v", label, owns, in, l, made)
		}
		if made && *k.slots[19].(*segment) != (segment{base: base{19, api.Segment, l}}) {
			t.Errorf("made %+v", k.slots[19])
		}
	}
}

// P3: reaching reads each container around a slot, the outermost first.
func TestReachFromTheRootOn(t *testing.T) {
	rows := []struct {
		slot, owns int
		want       api.Out
	}{
		{0, 0, api.Out{Value: api.Container}},
		{2, 0, api.Out{Value: api.Container}},
		{30, 0, api.Out{}},
		{10, 0, api.Out{Err: api.ErrLabel}},
		{10, 1, api.Out{Value: api.Container, Used: 1}},
		{19, 1, api.Out{Used: 1}},
		{12, 0, api.Out{Err: api.ErrLabel}},
		{12, 6, api.Out{Err: api.ErrLabel}},
		{12, 1, api.Out{Err: api.ErrLabel, Used: 1}},
		{12, 3, api.Out{Value: api.Segment, Used: 3}},
		{15, 255, api.Out{Used: 3}},
		{16, 255, api.Out{Used: 1}},
		{11, 255, api.Out{Used: 1}},
		{9, 255, api.Out{}},
		{20, 255, api.Out{}},
	}
	for _, r := range rows {
		k := asThread(0, r.owns)
		k.layContainer(10, 3, 12, 16)
		k.layContainer(2, 1, 10, 20)
		k.laySegment(12, 7, 5)
		k.expect(t, r.want, api.Kind, r.slot)
	}
	k := asThread(0, 3)
	k.layContainer(2, 1, 10, 20)
	k.layContainer(10, 3, 12, 16)
	k.laySegment(12, 7, 5)
	k.expect(t, api.Out{Value: 7, Used: 3}, api.Label, 12)
	k.expect(t, api.Out{Err: api.ErrDead, Used: 3}, api.Label, 13)
	k.expect(t, api.Out{Err: api.ErrLabel, Used: 3}, api.Read, 12, 0)
	k.expect(t, api.Out{Used: 3}, api.Write, 12, 0, 1)
	k.expect(t, api.Out{Err: api.ErrBusy}, api.NewSegment, 0, 13, 7)
	k.expect(t, api.Out{Err: api.ErrBusy, Used: 1}, api.NewSegment, 2, 13, 7)
	k.expect(t, api.Out{Err: api.ErrLabel, Used: 3}, api.NewSegment, 10, 13, 1)
	k.expect(t, api.Out{Used: 3}, api.NewSegment, 10, 13, 7)
}

// P1, P4: who is current when the phase's thread is asleep, gone or none; ErrIdle counts first.
func TestIdle(t *testing.T) {
	rows := []struct {
		name string
		do   func(k *Kernel)
	}{
		{"asleep", func(k *Kernel) { k.quanta[0].awake = false }},
		{"gone", func(k *Kernel) { k.slots[1] = nil }},
		{"replaced", func(k *Kernel) {
			other := *k.quanta[0]
			k.put(&other)
		}},
		{"no thread", func(k *Kernel) { k.quanta[0] = nil }},
	}
	for _, r := range rows {
		k := asThread(5, 255)
		r.do(k)
		if n := k.Now(); n != (api.Now{Phase: 0, Thread: -1, Label: 0}) {
			t.Errorf("%s: %+v", r.name, n)
		}
		k.expect(t, api.Out{Err: api.ErrIdle}, api.Self)
		k.expect(t, api.Out{Err: api.ErrIdle}, api.Kind, 99)
		k.expect(t, api.Out{Err: api.ErrIdle}, 99)
		k.expect(t, api.Out{Err: api.ErrIdle}, api.NewSegment, 0, 2, 255)
		k.Tick()
		if n := k.Now(); n.Phase != 1 {
			t.Errorf("%s: a tick did not go on: %+v", r.name, n)
		}
	}
}

// P4, P5: the current thread is that of the phase's quantum, and it is who asks.
func TestThreadsTakeTurns(t *testing.T) {
	k := Boot()
	other := &thread{base: base{slot: 9, kind: api.Thread, label: 6}, owns: 2, awake: true}
	k.put(other)
	k.quanta[3], k.quanta[4] = other, nil
	k.laySegment(2, 6, 8)
	wants := [api.Quanta]api.Now{3: {Phase: 3, Thread: 9, Label: 6}, 4: {Phase: 4, Thread: -1}}
	for i := range 2 * api.Quanta {
		q := i % api.Quanta
		want := wants[q]
		if q != 3 && q != 4 {
			want = api.Now{Phase: q, Thread: 1}
		}
		if n := k.Now(); n != want {
			t.Errorf("phase %d: %+v, want %+v", q, n, want)
		}
		switch q {
		case 3:
			k.expect(t, api.Out{Value: 9}, api.Self)
			k.expect(t, api.Out{Value: 8}, api.Read, 2, 0)
			k.expect(t, api.Out{Err: api.ErrLabel}, api.NewSegment, 0, 3, 6)
		case 4:
			k.expect(t, api.Out{Err: api.ErrIdle}, api.Self)
		default:
			k.expect(t, api.Out{Value: 1}, api.Self)
			k.expect(t, api.Out{Value: 8, Used: 6}, api.Read, 2, 0)
		}
		k.Tick()
	}
}

// P1: with an error nothing changes, at all arguments around the edges.
func TestErrorsChangeNothing(t *testing.T) {
	edges := []int{-1, 0, 1, 2, 3, 10, 12, 31, 32, 256}
	k := asThread(4, 1)
	k.layContainer(2, 1, 10, 20)
	k.laySegment(12, 3, 5)
	for number := -1; number <= 17; number++ {
		for _, x := range edges {
			for _, y := range edges {
				for _, z := range edges {
					for count := range 4 {
						args := []int{x, y, z}[:count]
						before := k.all()
						if o := k.Trap(number, args...); o.Err != api.OK && (o.Value != 0 || k.all() != before) {
							t.Fatalf("Trap(%d, %v) = %+v changed\n%s to\n%s", number, args, o, before, k.all())
						}
					}
				}
			}
		}
	}
}
