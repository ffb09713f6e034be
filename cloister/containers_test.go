package cloister_test

import (
	"math"
	"testing"

	"cloister/api"
	"cloister/cloister"
)

// nested has containers in containers: 2 (slots 10 to 19, quanta 4 to 7, label 1), in it 11
// (slots 12 to 15, quanta 6 and 7, label 5), in that 12 (slots 13 to 15, quanta 6 and 7, label 5).
func nested(t *testing.T) *cloister.Kernel {
	t.Helper()
	k := cloister.Boot()
	play(t, k, []step{
		{7, with(0, 2, 1, 10, 20, 4, 8), tells(0, 0)},
		{7, with(2, 11, 5, 12, 16, 6, 8), tells(0, 1)},
		{7, with(11, 12, 5, 13, 16, 6, 8), tells(0, 5)},
	})
	return k
}

// P6: a slot lies in the innermost container, and only there something can be made in it.
func TestWhereSlotsLie(t *testing.T) {
	homes := [api.Slots]int{11: 2, 10: 2, 12: 11, 13: 12, 14: 12, 15: 12, 16: 2, 17: 2, 18: 2, 19: 2}
	taken := map[int]bool{0: true, 1: true, 2: true, 11: true, 12: true}
	needs := map[int]int{0: 0, 2: 1, 11: 5, 12: 5}
	for in, needed := range needs {
		for slot := range api.Slots {
			want := fails(api.ErrBusy, needed)
			if homes[slot] == in && !taken[slot] {
				want = tells(0, needed)
			}
			play(t, nested(t), []step{{api.NewSegment, with(in, slot, 255), want}})
		}
	}
	k := nested(t)
	for slot, home := range homes {
		want := tells(api.Free, needs[home])
		switch slot {
		case 0, 2, 11, 12:
			want.Value = api.Container
		case 1:
			want.Value = api.Thread
		}
		play(t, k, []step{{api.Kind, with(slot), want}})
	}
}

// P6: a quantum lies in the innermost container that has it, and only there another one can have it.
func TestWhereQuantaLie(t *testing.T) {
	homes := [api.Quanta]int{0, 0, 0, 0, 2, 2, 12, 12}
	// Not 11: it has no slot left.
	places := []struct{ in, slot, needed int }{{0, 3, 0}, {2, 10, 1}, {12, 13, 5}}
	for _, p := range places {
		for q, home := range homes {
			want := fails(api.ErrBusy, p.needed)
			if home == p.in {
				want = tells(0, p.needed)
			}
			play(t, nested(t), []step{{7, with(p.in, p.slot, 255, 32, 32, q, q+1), want}})
			play(t, nested(t), []step{{7, with(p.in, p.slot, 255, 32, 32, q, q), tells(0, p.needed)}})
		}
	}
	play(t, nested(t), []step{
		{7, with(0, 3, 0, 4, 5, 0, 4), tells(0, 0)},
	})
	play(t, nested(t), []step{
		{7, with(0, 3, 0, 4, 5, 0, 5), fails(api.ErrBusy, 0)},
		{7, with(0, 3, 0, 4, 5, 3, 5), fails(api.ErrBusy, 0)},
		{7, with(2, 10, 1, 17, 20, 3, 5), fails(api.ErrBusy, 1)},
		{7, with(2, 10, 1, 17, 20, 5, 7), fails(api.ErrBusy, 1)},
		{7, with(2, 10, 1, 17, 20, 4, 6), tells(0, 1)},
		{7, with(2, 16, 1, 32, 32, 4, 5), fails(api.ErrBusy, 1)},
		{7, with(10, 17, 1, 32, 32, 4, 5), tells(0, 1)},
	})
}

// P6: a range may touch what is there, but not have any of it, nor the container's own slot.
func TestRangesThatTouch(t *testing.T) {
	rows := []struct {
		slot, a, b int
		want       api.Errno
	}{
		{8, 3, 6, api.OK},
		{8, 3, 8, api.OK},
		{8, 3, 9, api.ErrBusy},
		{8, 8, 9, api.ErrBusy},
		{8, 8, 10, api.ErrBusy},
		{8, 9, 10, api.OK},
		{8, 9, 11, api.ErrBusy},
		{8, 2, 4, api.ErrBusy},
		{8, 1, 2, api.ErrBusy},
		{8, 1, 32, api.ErrBusy},
		{8, 10, 11, api.ErrBusy},
		{8, 16, 18, api.ErrBusy},
		{8, 19, 22, api.ErrBusy},
		{8, 20, 22, api.OK},
		{8, 20, 25, api.OK},
		{8, 20, 26, api.ErrBusy},
		{8, 25, 26, api.ErrBusy},
		{8, 26, 32, api.OK},
		{8, 31, 32, api.OK},
		{31, 31, 32, api.ErrBusy},
		{31, 26, 31, api.OK},
		// Empty ranges have nothing of what is there.
		{8, 8, 8, api.OK},
		{8, 1, 1, api.OK},
		{8, 2, 2, api.OK},
		{8, 14, 14, api.OK},
		{8, 25, 25, api.OK},
		{8, 32, 32, api.OK},
	}
	for _, r := range rows {
		k := nested(t)
		play(t, k, []step{
			{api.NewSegment, with(0, 25, 0), tells(0, 0)},
			{api.NewContainer, with(0, r.slot, 0, r.a, r.b, 0, 0), fails(r.want, 0)},
		})
		kind := api.Container
		if r.want != api.OK {
			kind = api.Free
		}
		play(t, k, []step{{api.Kind, with(r.slot), tells(kind, 0)}})
		if r.want != api.OK {
			continue
		}
		for s := r.a; s < r.b; s++ {
			play(t, k, []step{
				{api.NewSegment, with(0, s, 0), fails(api.ErrBusy, 0)},
				{api.NewSegment, with(r.slot, s, 0), tells(0, 0)},
			})
		}
	}
}

// P1: what no range may be counts ahead of everything that the slots would tell.
func TestRangeArguments(t *testing.T) {
	good := with(3, 3, 0, 4, 8, 2, 4) // nothing is in slot 3
	changes := []struct{ at, to int }{
		{3, 0}, {3, -1}, {3, math.MinInt}, {3, 9}, {3, 33}, {3, math.MaxInt},
		{4, 3}, {4, 0}, {4, -1}, {4, math.MinInt}, {4, 33}, {4, math.MaxInt},
		{5, -1}, {5, math.MinInt}, {5, 5}, {5, 9}, {5, math.MaxInt},
		{6, 1}, {6, 0}, {6, -1}, {6, math.MinInt}, {6, 9}, {6, math.MaxInt},
		{0, -1}, {0, 32}, {1, -1}, {1, 32}, {2, -1}, {2, 256},
	}
	for _, c := range changes {
		args := append([]int(nil), good...)
		args[c.at] = c.to
		play(t, cloister.Boot(), []step{{api.NewContainer, args, fails(api.ErrArg, 0)}})
	}
	for _, r := range [][]int{{1, 1, 0, 0}, {1, 32, 0, 8}, {32, 32, 8, 8}, {8, 8, 4, 4}} {
		args := append(with(3, 3, 0), r...)
		play(t, cloister.Boot(), []step{{api.NewContainer, args, fails(api.ErrDead, 0)}})
	}
	play(t, cloister.Boot(), []step{
		{api.NewContainer, with(0, 3, 0, 33, 33, 0, 0), fails(api.ErrArg, 0)},
		{api.NewContainer, with(0, 3, 0, 0, 0, 0, 0), fails(api.ErrArg, 0)},
		{api.NewContainer, with(0, 3, 0, 4, 5, 9, 9), fails(api.ErrArg, 0)},
		{api.NewContainer, with(0, 3, 0, 4, 5, 0), fails(api.ErrTrap, 0)},
		{api.NewContainer, with(0, 3, 0, 9, 5, 0, 0, 0), fails(api.ErrTrap, 0)},
		{api.FreeSlot, nil, fails(api.ErrTrap, 0)},
		{api.FreeSlot, with(1, 1), fails(api.ErrTrap, 0)},
		{api.FreeSlot, with(-1), fails(api.ErrArg, 0)},
		{api.FreeSlot, with(32), fails(api.ErrArg, 0)},
		{api.FreeSlot, with(math.MaxInt), fails(api.ErrArg, 0)},
		{api.FreeSlot, with(0), fails(api.ErrArg, 0)},
	})
}

// P1, P6: of several things that are wrong the first one counts.
func TestNewContainerOrderOfErrors(t *testing.T) {
	k := nested(t)
	play(t, k, []step{
		{api.NewSegment, with(2, 10, 3), tells(0, 1)},
		{api.NewContainer, with(17, 1, 0, 1, 2, 0, 8), fails(api.ErrDead, 1)},
		{api.NewContainer, with(1, 1, 0, 1, 2, 0, 8), fails(api.ErrKind, 0)},
		{api.NewContainer, with(10, 1, 0, 1, 2, 0, 8), fails(api.ErrKind, 3)},
		{api.NewContainer, with(2, 1, 0, 1, 2, 0, 8), fails(api.ErrBusy, 1)},
		{api.NewContainer, with(2, 10, 0, 1, 2, 0, 8), fails(api.ErrBusy, 1)},
		{api.NewContainer, with(2, 17, 0, 1, 2, 0, 8), fails(api.ErrLabel, 1)},
		{api.NewContainer, with(2, 17, 254, 18, 20, 4, 6), fails(api.ErrLabel, 1)},
		{api.NewContainer, with(2, 17, 1, 1, 2, 0, 8), fails(api.ErrBusy, 1)},
		{api.NewContainer, with(2, 17, 1, 18, 20, 0, 8), fails(api.ErrBusy, 1)},
		{api.NewContainer, with(2, 17, 255, 18, 20, 4, 6), tells(0, 1)},
		{api.Label, with(17), tells(255, 1)},
		{api.Kind, with(18), tells(api.Free, 255)},
	})
}

// P4, P6: the quanta of a new container have no threads; those of a freed one do not get them back.
func TestQuantaLoseThreads(t *testing.T) {
	k := cloister.Boot()
	play(t, k, []step{{api.NewContainer, with(0, 2, 1, 10, 20, 4, 6), tells(0, 0)}})
	if got := threads(k); got != [api.Quanta]int{1, 1, 1, 1, -1, -1, 1, 1} {
		t.Errorf("behind NewContainer: %v", got)
	}
	play(t, k, []step{
		{api.FreeSlot, with(2), tells(0, 0)},
		{api.NewContainer, with(0, 2, 0, 3, 3, 1, 1), tells(0, 0)},
	})
	if got := threads(k); got != [api.Quanta]int{1, 1, 1, 1, -1, -1, 1, 1} {
		t.Errorf("behind Free: %v", got)
	}
	play(t, k, []step{{api.NewContainer, with(0, 3, 0, 4, 4, 0, 1), tells(0, 0)}})
	for range api.Quanta {
		idle := k.Now().Thread == -1
		if n := k.Now(); idle != (n.Phase == 0 || n.Phase == 4 || n.Phase == 5) || n.Label != 0 {
			t.Errorf("behind a second one: %+v", n)
		}
		if idle {
			play(t, k, []step{
				{api.Self, nil, fails(api.ErrIdle, 0)},
				{api.FreeSlot, with(3, 3), fails(api.ErrIdle, 0)},
				{api.NewContainer, with(0, 3, 0, 9, 4, 0, 1), fails(api.ErrIdle, 0)},
			})
		} else {
			play(t, k, []step{{api.Self, nil, tells(1, 0)}})
		}
		k.Tick()
	}
}

// P6: what lies in a freed container goes, however deep, and nothing else does.
func TestFreeGoesDeep(t *testing.T) {
	fill := func() *cloister.Kernel {
		k := nested(t)
		play(t, k, []step{
			{api.NewSegment, with(0, 9, 0), tells(0, 0)},
			{api.NewSegment, with(0, 20, 0), tells(0, 0)},
			{api.NewSegment, with(2, 10, 3), tells(0, 1)},
			{api.NewSegment, with(2, 19, 1), tells(0, 1)},
			{api.NewSegment, with(12, 13, 5), tells(0, 5)},
			{api.NewSegment, with(12, 15, 7), tells(0, 5)},
			{api.Write, with(10, 0, 4), tells(0, 1)},
		})
		return k
	}
	rows := []struct {
		slot, used int
		goes       []int
	}{
		{9, 0, with(9)},
		{10, 1, with(10)},
		{15, 5, with(15)},
		{12, 5, with(12, 13, 15)},
		{11, 1, with(11, 12, 13, 15)},
		{2, 0, with(2, 10, 11, 12, 13, 15, 19)},
	}
	for _, r := range rows {
		k := fill()
		play(t, k, []step{{api.FreeSlot, with(r.slot), tells(0, r.used)}})
		here := map[int]bool{0: true, 1: true, 2: true, 9: true, 10: true, 11: true, 12: true, 13: true, 15: true, 19: true, 20: true}
		for _, slot := range r.goes {
			delete(here, slot)
		}
		for slot := range api.Slots {
			o := k.Trap(api.Kind, slot)
			if o.Err != api.OK || (o.Value != api.Free) != here[slot] {
				t.Errorf("behind Free %d: Kind %d is %+v", r.slot, slot, o)
			}
		}
	}
	k := fill()
	play(t, k, []step{
		{api.FreeSlot, with(2), tells(0, 0)},
		{api.FreeSlot, with(2), fails(api.ErrDead, 0)},
		{api.FreeSlot, with(13), fails(api.ErrDead, 0)},
		{api.Kind, with(13), tells(api.Free, 0)},
		{api.NewSegment, with(0, 10, 0), tells(0, 0)},
		{api.Read, with(10, 0), tells(0, 0)},
		{api.NewSegment, with(0, 12, 0), tells(0, 0)},
		{api.NewContainer, with(0, 2, 0, 3, 9, 0, 0), tells(0, 0)},
		{api.NewSegment, with(2, 13, 0), fails(api.ErrBusy, 0)},
	})
}

// P4, P6: a thread may free itself; then its quanta have none.
func TestThreadFreesItself(t *testing.T) {
	k := cloister.Boot()
	play(t, k, []step{{api.FreeSlot, with(1), tells(0, 0)}})
	for q := range api.Quanta {
		if n := k.Now(); n != (api.Now{Phase: q, Thread: -1}) {
			t.Errorf("%+v", n)
		}
		play(t, k, []step{
			{api.Self, nil, fails(api.ErrIdle, 0)},
			{api.FreeSlot, with(1), fails(api.ErrIdle, 0)},
			{99, with(1), fails(api.ErrIdle, 0)},
		})
		k.Tick()
	}
}
