package cloister_test

import (
	"math/rand"
	"slices"
	"testing"

	"cloister/api"
	"cloister/cloister"
)

// P3, P5: reading and writing at every label, of what is a segment and what is not.
func TestReadAndWriteByLabels(t *testing.T) {
	for n := range few * few * few {
		label, owns, x := n%few, n/few%few, n/few/few
		y := try(t, label, owns)
		y.lay(api.NewSegment, 0, 2, x)
		y.lay(api.Write, 2, 3, 41)
		y.lay(api.NewContainer, 0, 3, x, 20, 20, 0, 0)

		read := tally{label: label, owns: owns}
		read.reads(x)
		y.ask(read.or(api.ErrKind), api.Read, 3, 3)
		if read.ok() {
			read.out.Value = 41
		}
		y.ask(read.out, api.Read, 2, 3)

		write := tally{label: label, owns: owns}
		write.writes(x)
		y.ask(write.or(api.ErrKind), api.Write, 3, 3, 42)
		y.ask(write.out, api.Write, 2, 3, 42)
		if got := y.seen().words[2][3]; write.ok() != (got == 42) {
			t.Errorf("label %d, owns %d, segment %d: the word is %d behind %+v", label, owns, x, got, write.out)
		}
		y.ask(tells(x, 0), api.Label, 2)
		y.ask(tells(api.Segment, 0), api.Kind, 2)
	}
}

// P1, P3, P5: making, with the first thing that is wrong, at every label.
func TestMakingByLabels(t *testing.T) {
	fourLabels(func(label, owns, in, l int) {
		y := try(t, label, owns)
		y.lay(api.NewContainer, 0, 2, in, 10, 20, 0, 0)
		y.lay(api.NewSegment, 0, 3, in)
		y.lay(api.NewSegment, 2, 10, in)

		want := tally{label: label, owns: owns}
		want.reads(in)
		want.writes(in)
		y.ask(want.or(api.ErrKind), api.NewSegment, 3, 11, l)
		y.ask(want.or(api.ErrKind), api.NewSegment, 3, 10, l)
		y.ask(want.or(api.ErrBusy), api.NewSegment, 2, 10, l) // not free
		y.ask(want.or(api.ErrBusy), api.NewSegment, 2, 20, l) // not in this container
		y.ask(want.or(api.ErrBusy), api.NewSegment, 2, 0, l)
		want.stop(in&l != in, api.ErrLabel)
		want.fits(label, l)
		before := y.seen()
		y.ask(want.out, api.NewSegment, 2, 19, l)
		if want.ok() {
			before.kinds[19], before.labels[19] = api.Segment, l
		}
		if y.seen() != before {
			t.Errorf("label %d, owns %d, container %d, l %d: %+v is there, want %+v", label, owns, in, l, y.seen(), before)
		}
	})
}

// P1, P3, P6: a container is made like anything else; what is wrong with its ranges counts behind that.
func TestNewContainerByLabels(t *testing.T) {
	fourLabels(func(label, owns, in, l int) {
		y := try(t, label, owns)
		y.lay(api.NewContainer, 0, 2, in, 10, 20, 4, 8)
		y.lay(api.NewSegment, 0, 3, in)
		y.lay(api.NewSegment, 2, 10, in)
		y.lay(api.NewContainer, 2, 11, in, 18, 19, 7, 8)
		for q := 4; q < 8; q++ {
			y.lay(api.Give, q, 1)
		}

		want := tally{label: label, owns: owns}
		want.reads(in)
		want.writes(in)
		y.ask(want.or(api.ErrKind), api.NewContainer, 3, 12, l, 12, 13, 0, 8)
		y.ask(want.or(api.ErrBusy), api.NewContainer, 2, 10, l, 13, 15, 4, 6)
		y.ask(want.or(api.ErrBusy), api.NewContainer, 2, 20, l, 13, 15, 4, 6)
		y.ask(want.or(api.ErrBusy), api.NewContainer, 2, 18, l, 13, 15, 4, 6)
		want.stop(in&l != in, api.ErrLabel)
		want.fits(label, l)
		y.ask(want.or(api.ErrBusy), api.NewContainer, 2, 12, l, 12, 15, 4, 6) // its own slot
		y.ask(want.or(api.ErrBusy), api.NewContainer, 2, 12, l, 10, 11, 4, 6) // not free
		y.ask(want.or(api.ErrBusy), api.NewContainer, 2, 12, l, 9, 10, 4, 6)  // outside
		y.ask(want.or(api.ErrBusy), api.NewContainer, 2, 12, l, 18, 19, 4, 6) // further inside
		y.ask(want.or(api.ErrBusy), api.NewContainer, 2, 12, l, 13, 15, 3, 4)
		y.ask(want.or(api.ErrBusy), api.NewContainer, 2, 12, l, 13, 15, 7, 8)
		before := y.seen()
		y.ask(want.out, api.NewContainer, 2, 12, l, 13, 15, 4, 6)
		if want.ok() {
			before.kinds[12], before.labels[12] = api.Container, l
			before.turns[4].Thread, before.turns[5].Thread = -1, -1
		}
		if y.seen() != before {
			t.Errorf("label %d, owns %d, container %d, l %d: %+v is there, want %+v", label, owns, in, l, y.seen(), before)
		}
		if want.ok() {
			y.lay(api.NewSegment, 12, 13, l)
			y.lay(api.NewSegment, 12, 14, l)
			y.lay(api.NewSegment, 2, 15, in)
		}
	})
}

// P1, P3, P6: to free asks to reach the slot and to write where it lies; what goes does not matter.
func TestFreeByLabels(t *testing.T) {
	fourLabels(func(label, owns, outer, inner int) {
		if outer&^inner != 0 {
			return
		}
		y := try(t, label, owns)
		y.lay(api.NewContainer, 0, 2, outer, 10, 20, 0, 0)
		y.lay(api.NewContainer, 2, 10, inner, 12, 16, 0, 0)
		y.lay(api.NewSegment, 10, 12, 7)
		y.ask(fails(api.ErrArg, 0), api.FreeSlot, 0)

		want := tally{label: label, owns: owns}
		want.reads(outer)
		want.reads(inner)
		y.ask(want.or(api.ErrDead), api.FreeSlot, 13)
		want.writes(inner)
		y.ask(want.out, api.FreeSlot, 12)
		if gone := y.seen().kinds[12] == api.Free; gone != want.ok() {
			t.Errorf("label %d, owns %d, containers %d %d: gone is %v", label, owns, outer, inner, gone)
		}

		want = tally{label: label, owns: owns}
		want.reads(outer)
		want.writes(outer)
		y.ask(want.out, api.FreeSlot, 10)
		want = tally{label: label, owns: owns}
		want.writes(0)
		y.ask(want.out, api.FreeSlot, 2)
		if gone := y.seen().kinds[2] == api.Free; gone != want.ok() {
			t.Errorf("label %d, owns %d, container %d: gone is %v", label, owns, outer, gone)
		}
	})
}

// P3: reaching reads each container around a slot, the outermost first, wherever their own slots are.
func TestReachFromTheRootOn(t *testing.T) {
	rows := []struct {
		slot, owns int
		want       api.Out
	}{
		{0, 0, tells(api.Container, 0)},
		{2, 0, tells(api.Container, 0)},
		{30, 0, tells(api.Free, 0)},
		{10, 0, fails(api.ErrLabel, 0)},
		{10, 1, tells(api.Container, 1)},
		{19, 1, tells(api.Free, 1)},
		{12, 0, fails(api.ErrLabel, 0)},
		{12, 6, fails(api.ErrLabel, 0)},
		{12, 1, fails(api.ErrLabel, 1)},
		{12, 3, tells(api.Segment, 3)},
		{15, 255, tells(api.Free, 3)},
		{16, 255, tells(api.Free, 1)},
		{11, 255, tells(api.Free, 1)},
		{9, 255, tells(api.Free, 0)},
		{20, 255, tells(api.Free, 0)},
		{29, 0, tells(api.Container, 0)},
		{21, 6, fails(api.ErrLabel, 0)},
		{22, 6, fails(api.ErrLabel, 0)},
		{22, 1, fails(api.ErrLabel, 1)},
		{22, 3, tells(api.Segment, 3)},
		{23, 3, tells(api.Free, 3)},
		{24, 3, tells(api.Free, 1)},
	}
	for _, r := range rows {
		y := try(t, 0, r.owns)
		y.lay(api.NewContainer, 0, 2, 1, 10, 20, 0, 0)
		y.lay(api.NewContainer, 2, 10, 3, 12, 16, 0, 0)
		y.lay(api.NewSegment, 10, 12, 7)
		y.lay(api.NewContainer, 0, 29, 1, 21, 29, 0, 0)
		y.lay(api.NewContainer, 29, 21, 3, 22, 24, 0, 0)
		y.lay(api.NewSegment, 21, 22, 7)
		y.ask(r.want, api.Kind, r.slot)
	}
	y := try(t, 0, 3)
	y.lay(api.NewContainer, 0, 2, 1, 10, 20, 0, 0)
	y.lay(api.NewContainer, 2, 10, 3, 12, 16, 0, 0)
	y.lay(api.NewSegment, 10, 12, 7)
	y.ask(tells(7, 3), api.Label, 12)
	y.ask(fails(api.ErrDead, 3), api.Label, 13)
	y.ask(fails(api.ErrLabel, 3), api.Read, 12, 0)
	y.ask(tells(0, 3), api.Write, 12, 0, 1)
	y.ask(fails(api.ErrBusy, 0), api.NewSegment, 0, 13, 7)
	y.ask(fails(api.ErrBusy, 1), api.NewSegment, 2, 13, 7)
	y.ask(fails(api.ErrLabel, 3), api.NewSegment, 10, 13, 1)
	y.ask(tells(0, 3), api.NewSegment, 10, 13, 7)
}

// P1, P4: who is current when the phase's thread is asleep, gone or none; ErrIdle counts first.
func TestIdle(t *testing.T) {
	rows := []struct {
		name  string
		phase int // 0: the first thread does it; 1: the thread itself
		steps []step
	}{
		{"asleep", 1, []step{{api.Sleep, nil, tells(0, 0)}}},
		{"gone", 0, []step{{api.FreeSlot, with(31), tells(0, 0)}}},
		{"replaced", 0, []step{
			{api.FreeSlot, with(31), tells(0, 0)},
			{api.NewThread, with(0, 31, 5, 255), tells(0, 0)},
		}},
		{"no thread", 0, []step{{api.Drop, with(1), tells(0, 0)}}},
	}
	for _, r := range rows {
		y := try(t, 5, 255)
		goTo(y.k, r.phase)
		play(t, y.k, r.steps)
		goTo(y.k, 1)
		if n := y.k.Now(); n != (api.Now{Phase: 1, Thread: -1}) {
			t.Errorf("%s: %+v", r.name, n)
		}
		y.stale = true
		y.ask(fails(api.ErrIdle, 0), api.Self)
		y.ask(fails(api.ErrIdle, 0), api.Kind, 99)
		y.ask(fails(api.ErrIdle, 0), 99)
		y.ask(fails(api.ErrIdle, 0), api.NewSegment, 0, 2, 255)
		y.ask(fails(api.ErrIdle, 0), api.Sleep)
		y.ask(fails(api.ErrIdle, 0), api.Wake, 31)
		y.ask(fails(api.ErrIdle, 0), api.Give, 1, 1)
		y.ask(fails(api.ErrIdle, 0), api.Drop, 2)
		y.ask(fails(api.ErrIdle, 0), api.NewPort, 0, 2, 255)
		y.ask(fails(api.ErrIdle, 0), api.Send, 2, 1)
		y.ask(fails(api.ErrIdle, 0), api.Receive, 99)
		goTo(y.k, 1)
		y.k.Tick()
		if n := y.k.Now(); n.Phase != 2 {
			t.Errorf("%s: a tick did not go on: %+v", r.name, n)
		}
	}
}

// P1: with an error nothing changes: a kernel that never heard of the traps that fail is the same.
func TestErrorsChangeNothing(t *testing.T) {
	for seed := range 1000 {
		random := rand.New(rand.NewSource(int64(seed)))
		one, other := crowded(t), crowded(t)
		for range 60 {
			number, args := someTrap(random)
			o := one.Trap(number, args...)
			if o.Err != api.OK && o.Value != 0 {
				t.Fatalf("seed %d: Trap(%d, %v) = %+v", seed, number, args, o)
			}
			if o.Err == api.OK {
				play(t, other, []step{{number, args, o}})
			}
			if !slices.Equal(one.View(api.MaxLabel), other.View(api.MaxLabel)) {
				t.Fatalf("seed %d: Trap(%d, %v) = %+v has changed something", seed, number, args, o)
			}
			for again := random.Intn(2) == 0; again; again = one.Now().Thread == -1 && random.Intn(8) > 0 {
				one.Tick()
				other.Tick()
			}
		}
		if !slices.Equal(told(one), told(other)) {
			t.Fatalf("seed %d: traps that failed have changed something", seed)
		}
	}
}

// crowd is what the first thread asks to get threads of several labels, and containers in containers.
var crowd = [][]int{
	{api.NewThread, 0, 31, 1, 2},
	{api.Give, 1, 31},
	{api.NewContainer, 0, 2, 1, 10, 20, 4, 8},
	{api.NewContainer, 2, 11, 3, 12, 16, 6, 8},
	{api.NewThread, 0, 3, 2, 1},
	{api.NewThread, 2, 10, 1, 0},
	{api.NewThread, 11, 12, 3, 3},
	{api.Give, 2, 3},
	{api.Give, 4, 10},
	{api.Give, 6, 12},
	{api.NewSegment, 0, 4, 1},
	{api.NewSegment, 2, 16, 3},
	{api.NewPort, 0, 5, 1},
	{api.NewPort, 2, 17, 1},
}

func crowded(t *testing.T) *cloister.Kernel {
	t.Helper()
	k := cloister.Boot()
	for _, c := range crowd {
		if o := k.Trap(c[0], c[1:]...); o.Err != api.OK {
			t.Fatalf("Trap(%v) = %+v", c, o)
		}
	}
	return k
}

// someTrap chooses mostly traps that may be, with numbers that often meet something in a crowd.
func someTrap(random *rand.Rand) (int, []int) {
	number := random.Intn(18)
	if number == api.Sleep && random.Intn(4) > 0 {
		number = api.Wake
	}
	args := make([]int, counts[number])
	if random.Intn(20) == 0 {
		args = make([]int, random.Intn(9))
	}
	for i := range args {
		args[i] = random.Intn(24)
		if random.Intn(2) == 0 {
			args[i] = random.Intn(5)
		}
		if random.Intn(20) == 0 {
			args[i] = random.Intn(300) - 1
		}
	}
	if (number == api.Send || number == api.Receive) && len(args) > 0 && random.Intn(2) == 0 {
		args[0] = with(5, 17)[random.Intn(2)]
	}
	if len(args) > 2 && random.Intn(2) == 0 {
		args[0] = with(0, 2, 11)[random.Intn(3)]
	}
	if len(args) == 7 {
		args[5] = random.Intn(9)
		args[4] = args[3] + random.Intn(4)
		args[6] = args[5] + random.Intn(3)
	}
	return number, args
}

// told is what the threads that are current in one round are told of the slots.
func told(k *cloister.Kernel) []api.Out {
	var all []api.Out
	for range api.Quanta {
		n := k.Now()
		all = append(all, api.Out{Value: n.Thread, Used: n.Label})
		for slot := range api.Slots {
			all = append(all, k.Trap(api.Kind, slot), k.Trap(api.Label, slot))
			for i := range api.Words {
				all = append(all, k.Trap(api.Read, slot, i))
			}
		}
		k.Tick()
	}
	return all
}
