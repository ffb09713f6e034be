package cloister_test

import (
	"math"
	"math/rand"
	"slices"
	"testing"

	"cloister/api"
	"cloister/cloister"
)

// drain takes all words out of a port, by the first thread.
func (y *trial) drain(slot int) []int {
	y.Helper()
	goTo(y.k, 0)
	y.stale = true
	var words []int
	for {
		o := y.k.Trap(api.Receive, slot)
		if o.Err == api.ErrEmpty {
			return words
		}
		if o.Err != api.OK || len(words) > api.Room {
			y.Fatalf("Trap(Receive, %d) = %+v behind %v", slot, o, words)
		}
		words = append(words, o.Value)
	}
}

// P1, P3, P8: a port is made like anything else, and holds nothing at first.
func TestNewPortByLabels(t *testing.T) {
	fourLabels(func(label, owns, in, l int) {
		y := try(t, label, owns)
		y.lay(api.NewContainer, 0, 2, in, 10, 20, 0, 0)
		y.lay(api.NewPort, 0, 3, in)
		y.lay(api.NewPort, 2, 10, in)

		want := tally{label: label, owns: owns}
		want.reads(in)
		y.ask(want.or(api.ErrDead), api.NewPort, 12, 10, l)
		want.writes(in)
		y.ask(want.or(api.ErrKind), api.NewPort, 3, 10, l)
		y.ask(want.or(api.ErrBusy), api.NewPort, 2, 10, l) // not free
		y.ask(want.or(api.ErrBusy), api.NewPort, 2, 20, l) // not in this container
		y.ask(want.or(api.ErrBusy), api.NewPort, 2, 0, l)
		want.stop(in&l != in, api.ErrLabel)
		want.fits(label, l)
		before := y.seen()
		y.ask(want.out, api.NewPort, 2, 19, l)
		if want.ok() {
			before.kinds[19], before.labels[19] = api.Port, l
		}
		if y.seen() != before {
			t.Errorf("label %d, owns %d, container %d, l %d: %+v is there, want %+v", label, owns, in, l, y.seen(), before)
		}
		if want.ok() && y.drain(19) != nil {
			t.Errorf("label %d, owns %d, container %d, l %d: a new port holds words", label, owns, in, l)
		}
	})
}

// P1, P3, P8: what sending asks, in its order; that a port is full hears who has all of its label.
func TestSendByLabels(t *testing.T) {
	fourLabels(func(label, owns, in, x int) {
		if in&^x != 0 {
			return
		}
		y := try(t, label, owns)
		y.lay(api.NewContainer, 0, 2, in, 10, 20, 0, 0)
		y.lay(api.NewPort, 2, 10, x)
		y.lay(api.NewSegment, 2, 11, x)
		y.lay(api.NewThread, 2, 12, x, 0)

		want := tally{label: label, owns: owns}
		want.reads(in)
		y.ask(want.or(api.ErrDead), api.Send, 13, 5)
		want.writes(x)
		y.ask(want.or(api.ErrKind), api.Send, 11, 5)
		y.ask(want.or(api.ErrKind), api.Send, 12, 5)
		whole := tally{label: label, owns: owns}
		whole.writes(in)
		y.ask(whole.or(api.ErrKind), api.Send, 2, 5)

		var words []int
		for i := range api.Room {
			y.ask(want.out, api.Send, 10, 70+i)
			if want.ok() {
				words = append(words, 70+i)
			}
		}
		for len(words) < api.Room {
			y.lay(api.Send, 10, 80)
			words = append(words, 80)
		}
		full := want
		full.stop(x&label == x, api.ErrFull)
		before := y.k.View(api.MaxLabel)
		y.ask(full.out, api.Send, 10, 90)
		y.ask(full.out, api.Send, 10, 91)
		goTo(y.k, before[0])
		if after := y.k.View(api.MaxLabel); !slices.Equal(after, before) {
			t.Errorf("label %d, owns %d, container %d, port %d: full, %v came to %v", label, owns, in, x, before, after)
		}
		if got := y.drain(10); !slices.Equal(got, words) {
			t.Errorf("label %d, owns %d, container %d, port %d: holds %v, want %v", label, owns, in, x, got, words)
		}
	})
}

// P1, P3, P8: receiving reads and writes, so it asks for both; that nothing is there counts last.
func TestReceiveByLabels(t *testing.T) {
	fourLabels(func(label, owns, in, x int) {
		if in&^x != 0 {
			return
		}
		y := try(t, label, owns)
		y.lay(api.NewContainer, 0, 2, in, 10, 20, 0, 0)
		y.lay(api.NewPort, 2, 10, x)
		y.lay(api.NewSegment, 2, 11, x)
		y.lay(api.NewThread, 2, 12, x, 0)

		want := tally{label: label, owns: owns}
		want.reads(in)
		y.ask(want.or(api.ErrDead), api.Receive, 13)
		want.reads(x)
		want.writes(x)
		y.ask(want.or(api.ErrKind), api.Receive, 11)
		y.ask(want.or(api.ErrKind), api.Receive, 12)
		y.ask(want.or(api.ErrEmpty), api.Receive, 10)
		whole := tally{label: label, owns: owns}
		whole.reads(in)
		whole.writes(in)
		y.ask(whole.or(api.ErrKind), api.Receive, 2)

		words := with(41, 42, 43)
		for _, word := range words {
			y.lay(api.Send, 10, word)
		}
		for range 2 {
			told := want.out
			if want.ok() {
				told.Value, words = words[0], words[1:]
			}
			y.ask(told, api.Receive, 10)
		}
		if got := y.drain(10); !slices.Equal(got, words) {
			t.Errorf("label %d, owns %d, container %d, port %d: holds %v, want %v", label, owns, in, x, got, words)
		}
	})
}

// P8: words come out in the order in which they went in, whatever they are, each from its own port.
func TestWordsInOrder(t *testing.T) {
	words := []int{math.MinInt, math.MinInt + 1, -1, 0, 1, math.MaxInt - 1, math.MaxInt}
	for seed := range 50 {
		random := rand.New(rand.NewSource(int64(seed)))
		k := cloister.Boot()
		labels := map[int]int{2: 0, 3: 6, 31: 0}
		held := map[int][]int{}
		for slot, label := range labels {
			play(t, k, []step{{api.NewPort, with(0, slot, label), tells(0, 0)}})
		}
		for range 200 {
			slot := with(2, 3, 31)[random.Intn(3)]
			if random.Intn(2) == 0 {
				word := words[random.Intn(len(words))]
				want := tells(0, 0)
				if len(held[slot]) < api.Room {
					held[slot] = append(held[slot], word)
				} else if labels[slot] == 0 {
					want.Err = api.ErrFull
				}
				play(t, k, []step{{api.Send, with(slot, word), want}})
				continue
			}
			want := fails(api.ErrEmpty, labels[slot])
			if len(held[slot]) > 0 {
				want = tells(held[slot][0], labels[slot])
				held[slot] = held[slot][1:]
			}
			play(t, k, []step{{api.Receive, with(slot), want}})
		}
	}
}

// P8: threads of several labels at one port; none of them hears more than its label lets it.
func TestThreadsAtAPort(t *testing.T) {
	k := cloister.Boot()
	play(t, k, []step{
		{api.NewPort, with(0, 2, 2), tells(0, 0)},
		{api.NewThread, with(0, 3, 2, 0), tells(0, 0)},
		{api.NewThread, with(0, 4, 3, 0), tells(0, 0)},
		{api.NewThread, with(0, 5, 0, 0), tells(0, 0)},
		{api.NewThread, with(0, 6, 3, 1), tells(0, 0)},
		{api.Give, with(1, 3), tells(0, 0)},
		{api.Give, with(2, 4), tells(0, 0)},
		{api.Give, with(3, 5), tells(0, 0)},
		{api.Give, with(4, 6), tells(0, 0)},
	})
	goTo(k, 3) // below the port: it sends, blindly
	play(t, k, []step{
		{api.Receive, with(2), fails(api.ErrLabel, 0)},
		{api.Send, with(2, 10), tells(0, 0)},
		{api.Send, with(2, 11), tells(0, 0)},
		{api.Send, with(2, 12), tells(0, 0)},
		{api.Receive, with(2), fails(api.ErrLabel, 0)},
	})
	goTo(k, 2) // above the port: it may read it, but neither send nor receive
	play(t, k, []step{
		{api.Send, with(2, 13), fails(api.ErrLabel, 0)},
		{api.Receive, with(2), fails(api.ErrLabel, 0)},
	})
	goTo(k, 4) // above it, and owning what it has more
	play(t, k, []step{
		{api.Send, with(2, 14), tells(0, 1)},
		{api.Send, with(2, 15), fails(api.ErrFull, 1)},
		{api.Receive, with(2), tells(10, 1)},
		{api.Send, with(2, 16), tells(0, 1)},
	})
	goTo(k, 3)
	play(t, k, []step{
		{api.Send, with(2, 17), tells(0, 0)}, // lost
		{api.Send, with(2, 18), tells(0, 0)},
	})
	goTo(k, 0) // owning all is not to have the label
	play(t, k, []step{{api.Send, with(2, 19), tells(0, 0)}})
	goTo(k, 1) // just the label
	play(t, k, []step{
		{api.Send, with(2, 20), fails(api.ErrFull, 0)},
		{api.Receive, with(2), tells(11, 0)},
		{api.Receive, with(2), tells(12, 0)},
		{api.Receive, with(2), tells(14, 0)},
		{api.Receive, with(2), tells(16, 0)},
		{api.Receive, with(2), fails(api.ErrEmpty, 0)},
		{api.Send, with(2, 21), tells(0, 0)},
	})
	goTo(k, 0)
	play(t, k, []step{
		{api.Receive, with(2), tells(21, 2)},
		{api.Receive, with(2), fails(api.ErrEmpty, 2)},
	})
}

// P6, P8: with a port its words go, alone or with a container around it; another one has none of them.
func TestPortsGo(t *testing.T) {
	for _, freed := range with(13, 12, 11, 2) {
		y := &trial{T: t, k: nested(t)}
		y.lay(api.NewPort, 12, 13, 5)
		y.lay(api.NewPort, 12, 14, 7)
		y.lay(api.NewPort, 0, 9, 0)
		for i := range api.Room {
			y.lay(api.Send, 13, 60+i)
			y.lay(api.Send, 9, 70+i)
		}
		y.lay(api.Send, 14, 80)
		y.lay(api.FreeSlot, freed)
		// Out of its containers, if these have gone too, it lies in what is left around it.
		in := map[int]int{13: 12, 12: 11, 11: 2, 2: 0}[freed]
		used := map[int]int{12: 5, 11: 5, 2: 1, 0: 0}[in]
		play(t, y.k, []step{
			{api.Send, with(13, 1), fails(api.ErrDead, used)},
			{api.Receive, with(13), fails(api.ErrDead, used)},
			{api.NewPort, with(in, 13, 5), tells(0, used)},
			{api.Receive, with(13), fails(api.ErrEmpty, 5)},
		})
		for i := range api.Room {
			y.lay(api.Send, 13, 90+i)
		}
		if got := y.drain(13); !slices.Equal(got, with(90, 91, 92, 93)) {
			t.Errorf("freed %d: another port in the slot holds %v", freed, got)
		}
		if got := y.drain(9); !slices.Equal(got, with(70, 71, 72, 73)) {
			t.Errorf("freed %d: a port elsewhere holds %v", freed, got)
		}
		if freed == 13 {
			if got := y.drain(14); !slices.Equal(got, with(80)) {
				t.Errorf("freed %d: the port beside it holds %v", freed, got)
			}
		} else {
			play(t, y.k, []step{{api.Send, with(14, 1), fails(api.ErrDead, used)}})
		}
		y.lay(api.FreeSlot, 13)
		y.lay(api.NewSegment, in, 13, 5)
		play(t, y.k, []step{
			{api.Send, with(13, 1), fails(api.ErrKind, used)},
			{api.Receive, with(13), fails(api.ErrKind, 5)},
			{api.Read, with(13, 0), tells(0, 5)},
		})
	}
}

// P5, P7, P8: a port is no segment, no thread and no container.
func TestPortsAreOfTheirKind(t *testing.T) {
	k := cloister.Boot()
	play(t, k, []step{
		{api.NewPort, with(0, 2, 4), tells(0, 0)},
		{api.Kind, with(2), tells(api.Port, 0)},
		{api.Label, with(2), tells(4, 0)},
		{api.Send, with(2, 9), tells(0, 0)},
		{api.Read, with(2, 0), fails(api.ErrKind, 4)},
		{api.Write, with(2, 0, 1), fails(api.ErrKind, 0)},
		{api.Give, with(0, 2), fails(api.ErrKind, 0)},
		{api.Wake, with(2), fails(api.ErrKind, 0)},
		{api.NewPort, with(2, 3, 4), fails(api.ErrKind, 4)},
		{api.NewSegment, with(0, 2, 4), fails(api.ErrBusy, 0)},
		{api.NewContainer, with(0, 3, 0, 2, 3, 0, 0), fails(api.ErrBusy, 0)},
		{api.Receive, with(2), tells(9, 4)},
		{api.Receive, with(0), fails(api.ErrKind, 0)},
		{api.Receive, with(1), fails(api.ErrKind, 0)},
		{api.Send, with(0, 1), fails(api.ErrKind, 0)},
		{api.Send, with(1, 1), fails(api.ErrKind, 0)},
	})
}

// P1, P8: of several things that are wrong the first one counts.
func TestPortsOrderOfErrors(t *testing.T) {
	y := try(t, 1, 2)
	y.lay(api.NewContainer, 0, 2, 2, 10, 20, 0, 0)
	y.lay(api.NewContainer, 0, 3, 4, 21, 25, 0, 0)
	y.lay(api.NewPort, 2, 10, 2)
	y.lay(api.NewPort, 2, 11, 3)
	y.lay(api.NewPort, 2, 12, 7)
	y.lay(api.NewSegment, 2, 13, 3)
	y.lay(api.NewPort, 0, 4, 1)
	for _, slot := range with(10, 11, 12, 4) {
		for range api.Room {
			y.lay(api.Send, slot, 8)
		}
	}
	y.ask(fails(api.ErrTrap, 0), api.NewPort, 99, 99)
	y.ask(fails(api.ErrTrap, 0), api.NewPort, 99, 99, 99, 99)
	y.ask(fails(api.ErrTrap, 0), api.Send, 99)
	y.ask(fails(api.ErrTrap, 0), api.Send, 99, 99, 99)
	y.ask(fails(api.ErrTrap, 0), api.Receive)
	y.ask(fails(api.ErrTrap, 0), api.Receive, 99, 99)
	y.ask(fails(api.ErrArg, 0), api.NewPort, 99, 0, 0)
	y.ask(fails(api.ErrArg, 0), api.NewPort, 9, 32, 0)
	y.ask(fails(api.ErrArg, 0), api.NewPort, 9, 0, 256)
	y.ask(fails(api.ErrArg, 0), api.Send, 32, math.MinInt)
	y.ask(fails(api.ErrArg, 0), api.Send, -1, 0)
	y.ask(fails(api.ErrArg, 0), api.Receive, 32)
	y.ask(fails(api.ErrArg, 0), api.Receive, -1)
	// Not to be reached: it does not count whether anything is there.
	y.ask(fails(api.ErrLabel, 0), api.Send, 21, 1)
	y.ask(fails(api.ErrLabel, 0), api.Receive, 21)
	y.ask(fails(api.ErrDead, 0), api.Send, 9, math.MaxInt)
	y.ask(fails(api.ErrDead, 2), api.Send, 14, math.MinInt)
	y.ask(fails(api.ErrDead, 0), api.Receive, 9)
	// Not to be written: it counts neither of what kind it is nor whether it is full.
	y.ask(fails(api.ErrLabel, 0), api.Send, 0, 1)
	y.ask(fails(api.ErrLabel, 2), api.Send, 10, 1)
	y.ask(fails(api.ErrLabel, 2), api.Receive, 10)
	// Not to be read, but to be written: the word is lost.
	y.ask(tells(0, 2), api.Send, 12, 1)
	y.ask(fails(api.ErrLabel, 2), api.Receive, 12)
	y.ask(fails(api.ErrKind, 2), api.Send, 13, 1)
	y.ask(fails(api.ErrKind, 2), api.Receive, 13)
	// To be read only by owning: the word is lost as well.
	y.ask(tells(0, 2), api.Send, 11, 1)
	y.ask(fails(api.ErrFull, 0), api.Send, 4, 1)
	for range api.Room {
		y.ask(tells(8, 2), api.Receive, 11)
		y.ask(tells(8, 0), api.Receive, 4)
	}
	y.ask(fails(api.ErrEmpty, 2), api.Receive, 11)
	y.ask(fails(api.ErrEmpty, 0), api.Receive, 4)
}
