package cloister_test

import (
	"math"
	"slices"
	"testing"

	"cloister/api"
	"cloister/cloister"
)

func TestFirstExample(t *testing.T) {
	play(t, cloister.Boot(), []step{
		{4, with(0, 2, 3), tells(0, 0)},
		{6, with(2, 0, 77), tells(0, 0)},
		{5, with(2, 0), tells(77, 3)},
		{5, with(3, 0), fails(api.ErrDead, 0)},
		{4, with(0, 2, 0), fails(api.ErrBusy, 0)},
		{4, with(2, 3, 0), fails(api.ErrKind, 3)},
		{99, nil, fails(api.ErrTrap, 0)},
		{1, with(1), fails(api.ErrTrap, 0)},
		{2, with(32), fails(api.ErrArg, 0)},
	})
}

// P1: no trap of the number, or another number of arguments, counts ahead of the arguments.
func TestNoSuchTrap(t *testing.T) {
	k := cloister.Boot()
	for _, number := range []int{math.MinInt, -1, 0, 17, 18, 255, math.MaxInt} {
		for count := range 9 {
			play(t, k, []step{{number, make([]int, count), fails(api.ErrTrap, 0)}})
		}
	}
	for number, right := range counts {
		for count := range 9 {
			if count != right {
				args := slices.Repeat(with(-1), count)
				play(t, k, []step{{number, args, fails(api.ErrTrap, 0)}})
			}
		}
		play(t, k, []step{{number, make([]int, 1<<16), fails(api.ErrTrap, 0)}})
	}
}

// P1: an argument that may not be counts ahead of everything that the slot would tell.
func TestArgumentEdges(t *testing.T) {
	const slot, quantum, label, index = api.Slots, api.Quanta, api.MaxLabel + 1, api.Words
	rows := []struct {
		number int
		ends   []int // the first number that may not be; 0: any may
	}{
		{api.Kind, with(slot)},
		{api.Label, with(slot)},
		{api.NewSegment, with(slot, slot, label)},
		{api.Read, with(slot, index)},
		{api.Write, with(slot, index, 0)},
		{api.NewThread, with(slot, slot, label, label)},
		{api.Give, with(quantum, slot)},
		{api.Drop, with(quantum)},
		{api.Wake, with(slot)},
		{api.NewPort, with(slot, slot, label)},
		{api.Send, with(slot, 0)},
		{api.Receive, with(slot)},
	}
	for _, r := range rows {
		for i, end := range r.ends {
			if end == 0 {
				continue
			}
			for _, bad := range []int{math.MinInt, -1, end, end + 1, math.MaxInt} {
				args := slices.Repeat(with(1), len(r.ends))
				args[i] = bad
				play(t, cloister.Boot(), []step{{r.number, args, fails(api.ErrArg, 0)}})
			}
			for _, good := range []int{0, end - 1} {
				args := slices.Repeat(with(1), len(r.ends))
				args[i] = good
				if o := cloister.Boot().Trap(r.number, args...); o.Err == api.ErrArg {
					t.Errorf("Trap(%d, %v) = %+v", r.number, args, o)
				}
			}
		}
	}
}

// P1: many traps at all sorts of arguments; with an error Value is 0.
func TestNothingPanics(t *testing.T) {
	edges := []int{math.MinInt, -1, 0, 1, 2, 3, 7, 8, 31, 32, 255, 256, math.MaxInt}
	k := cloister.Boot()
	ask := func(number int, args ...int) {
		if k.Now().Thread == -1 {
			k = cloister.Boot()
		}
		if o := k.Trap(number, args...); o.Err != api.OK && o.Value != 0 {
			t.Errorf("Trap(%d, %v) = %+v", number, args, o)
		}
		k.Tick()
	}
	for number := -1; number <= 17; number++ {
		ask(number)
		for _, x := range edges {
			ask(number, x)
			for _, y := range edges {
				ask(number, x, y)
				for _, z := range edges {
					ask(number, x, y, z)
					ask(number, x, y, z, x)
					ask(number, 0, 2, 0, x, y, z, 8)
					ask(number, x, y, 0, 3, z, 0, 4)
					ask(number, 0, 31, x, 4, 30, y, z)
				}
			}
		}
	}
	for _, l := range edges {
		k.View(l)
	}
}

// P2: arguments are neither written into, nor what stands behind them, nor kept.
func TestArgumentsStayTheCallers(t *testing.T) {
	k := cloister.Boot()
	room := []int{0, 2, 1, 1000, 1001}
	k.Trap(api.NewSegment, room[:3]...)
	if !slices.Equal(room, []int{0, 2, 1, 1000, 1001}) {
		t.Errorf("NewSegment wrote into its arguments: %v", room)
	}
	room[0], room[1], room[2] = 2, 3, 55
	k.Trap(api.Write, room[:3]...)
	if !slices.Equal(room, []int{2, 3, 55, 1000, 1001}) {
		t.Errorf("Write wrote into its arguments: %v", room)
	}
	k.Trap(api.NewPort, 0, 3, 0)
	room[0], room[1] = 3, 66
	k.Trap(api.Send, room[:2]...)
	if !slices.Equal(room, []int{3, 66, 55, 1000, 1001}) {
		t.Errorf("Send wrote into its arguments: %v", room)
	}
	room = append(with(0, 4, 0, 10, 20, 2, 4), 1000)
	k.Trap(api.NewContainer, room[:7]...)
	if !slices.Equal(room, append(with(0, 4, 0, 10, 20, 2, 4), 1000)) {
		t.Errorf("NewContainer wrote into its arguments: %v", room)
	}
	view := k.View(api.MaxLabel)
	clear(room)
	play(t, k, []step{
		{api.Kind, with(2), tells(api.Segment, 0)},
		{api.Label, with(2), tells(1, 0)},
		{api.Read, with(2, 3), tells(55, 1)},
	})
	if got := k.View(api.MaxLabel); !slices.Equal(got, view) {
		t.Errorf("%v has become %v", view, got)
	}
	play(t, k, []step{{api.Receive, with(3), tells(66, 0)}})
}

// P2: kernels share nothing.
func TestKernelsShareNothing(t *testing.T) {
	one, two := cloister.Boot(), cloister.Boot()
	if one == two {
		t.Fatal("Boot gives the same kernel twice")
	}
	play(t, two, []step{{api.NewSegment, with(0, 2, 0), tells(0, 0)}})
	play(t, one, []step{
		{api.NewSegment, with(0, 2, 4), tells(0, 0)},
		{api.Write, with(2, 0, 9), tells(0, 0)},
		{api.NewSegment, with(0, 3, 0), tells(0, 0)},
		{api.NewPort, with(0, 4, 0), tells(0, 0)},
		{api.Send, with(4, 9), tells(0, 0)},
	})
	one.Tick()
	play(t, two, []step{
		{api.Label, with(2), tells(0, 0)},
		{api.Read, with(2, 0), tells(0, 0)},
		{api.Kind, with(3), tells(api.Free, 0)},
		{api.NewPort, with(0, 4, 0), tells(0, 0)},
		{api.Receive, with(4), fails(api.ErrEmpty, 0)},
	})
	if n := two.Now(); n != (api.Now{Thread: 1}) {
		t.Errorf("another kernel's tick came through: %+v", n)
	}
}

// P4: the phases go round; traps do not move them.
func TestTickAndNow(t *testing.T) {
	k := cloister.Boot()
	for i := range 3*api.Quanta + 1 {
		want := api.Now{Phase: i % api.Quanta, Thread: 1, Label: 0}
		if n := k.Now(); n != want {
			t.Errorf("behind %d ticks: %+v, want %+v", i, n, want)
		}
		k.Trap(api.Self)
		k.Trap(99)
		if n := k.Now(); n != want {
			t.Errorf("behind %d ticks and two traps: %+v, want %+v", i, n, want)
		}
		k.Tick()
	}
}

// P5: at first there is the root, and a thread in slot 1.
func TestWhatIsThereAtFirst(t *testing.T) {
	k := cloister.Boot()
	play(t, k, []step{
		{api.Self, nil, tells(1, 0)},
		{api.Kind, with(0), tells(api.Container, 0)},
		{api.Label, with(0), tells(0, 0)},
		{api.Kind, with(1), tells(api.Thread, 0)},
		{api.Label, with(1), tells(0, 0)},
	})
	for s := 2; s < api.Slots; s++ {
		play(t, k, []step{
			{api.Kind, with(s), tells(api.Free, 0)},
			{api.Label, with(s), fails(api.ErrDead, 0)},
			{api.Read, with(s, 0), fails(api.ErrDead, 0)},
			{api.Write, with(s, 0, 1), fails(api.ErrDead, 0)},
			{api.NewSegment, with(s, 2, 0), fails(api.ErrDead, 0)},
		})
	}
}

// P5: every free slot can have a segment of any label; each word of each is its own.
func TestSegmentsInAllSlots(t *testing.T) {
	k := cloister.Boot()
	labelOf := func(s int) int { return s * 37 % (api.MaxLabel + 1) }
	wordOf := func(s, i int) int { return math.MinInt + s*100 + i }
	for s := 2; s < api.Slots; s++ {
		play(t, k, []step{
			{api.NewSegment, with(0, s, labelOf(s)), tells(0, 0)},
			{api.Kind, with(s), tells(api.Segment, 0)},
			{api.Label, with(s), tells(labelOf(s), 0)},
		})
		for i := range api.Words {
			play(t, k, []step{
				{api.Read, with(s, i), tells(0, labelOf(s))},
				{api.Write, with(s, i, wordOf(s, i)), tells(0, 0)},
			})
		}
	}
	for s := 2; s < api.Slots; s++ {
		for i := range api.Words {
			play(t, k, []step{{api.Read, with(s, i), tells(wordOf(s, i), labelOf(s))}})
		}
	}
}

// P5: what is asked of the wrong object, in the order of the table.
func TestWrongObjects(t *testing.T) {
	k := cloister.Boot()
	play(t, k, []step{
		{api.NewSegment, with(0, 31, 255), tells(0, 0)},
		{api.Read, with(0, 0), fails(api.ErrKind, 0)},
		{api.Read, with(1, 7), fails(api.ErrKind, 0)},
		{api.Write, with(0, 0, 1), fails(api.ErrKind, 0)},
		{api.Write, with(1, 7, math.MaxInt), fails(api.ErrKind, 0)},
		{api.NewSegment, with(1, 3, 0), fails(api.ErrKind, 0)},
		{api.NewSegment, with(31, 31, 0), fails(api.ErrKind, 255)},
		{api.NewSegment, with(0, 0, 0), fails(api.ErrBusy, 0)},
		{api.NewSegment, with(0, 1, 0), fails(api.ErrBusy, 0)},
		{api.NewSegment, with(0, 31, 255), fails(api.ErrBusy, 0)},
		{api.NewSegment, with(0, 30, 0), tells(0, 0)},
	})
}
