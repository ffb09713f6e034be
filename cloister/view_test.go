package cloister_test

import (
	"math"
	"math/rand"
	"slices"
	"testing"

	"cloister/api"
	"cloister/cloister"
)

// frees is what a view tells of free slots, from the first one up to the last one.
func frees(first, last int) []int {
	var told []int
	for s := first; s <= last; s++ {
		told = append(told, s, api.Free)
	}
	return told
}

// views asks what View tells, twice: to be looked at changes nothing.
func views(t *testing.T, k *cloister.Kernel, label int, parts ...[]int) {
	t.Helper()
	want := slices.Concat(parts...)
	for range 2 {
		if got := k.View(label); !slices.Equal(got, want) {
			t.Errorf("View(%d) =\n%v, want\n%v", label, got, want)
		}
	}
}

// P9: at first there is the same to be known under every label.
func TestViewAtFirst(t *testing.T) {
	k := cloister.Boot()
	for phase := range api.Quanta {
		for l := range api.MaxLabel + 1 {
			views(t, k, l,
				with(phase, 1, api.Thread, 0, 255, 1), frees(2, 31),
				with(0, 1, 1, 1, 2, 1, 3, 1, 4, 1, 5, 1, 6, 1, 7, 1))
		}
		k.Tick()
	}
}

// P9: under what is no label nothing is known.
func TestViewOfNoLabel(t *testing.T) {
	k := nested(t)
	for _, l := range with(math.MinInt, -256, -1, 256, 257, 511, math.MaxInt) {
		if got := k.View(l); len(got) != 0 {
			t.Errorf("View(%d) = %v", l, got)
		}
	}
	if got := k.View(api.MaxLabel); len(got) == 0 {
		t.Errorf("View(%d) = %v", api.MaxLabel, got)
	}
}

// P9: of each kind what it has, if its label is in l; of others the label alone.
func TestViewOfEachKind(t *testing.T) {
	k := cloister.Boot()
	play(t, k, []step{
		{api.NewSegment, with(0, 2, 1), tells(0, 0)},
		{api.Write, with(2, 0, math.MinInt), tells(0, 0)},
		{api.Write, with(2, 7, math.MaxInt), tells(0, 0)},
		{api.NewPort, with(0, 3, 2), tells(0, 0)},
		{api.Send, with(3, math.MaxInt), tells(0, 0)},
		{api.Send, with(3, math.MinInt), tells(0, 0)},
		{api.Send, with(3, -1), tells(0, 0)},
		{api.NewPort, with(0, 4, 0), tells(0, 0)},
		{api.NewThread, with(0, 5, 4, 9), tells(0, 0)},
		{api.NewThread, with(0, 6, 6, 128), tells(0, 0)},
		{api.Give, with(3, 6), tells(0, 0)},
		{api.NewContainer, with(0, 30, 8, 20, 30, 6, 7), tells(0, 0)},
		{api.NewContainer, with(0, 31, 3, 32, 32, 2, 2), tells(0, 0)},
	})
	goTo(k, 3)
	play(t, k, []step{{api.Sleep, nil, tells(0, 0)}})
	goTo(k, 7)
	for l := range 16 {
		under := func(label int, numbers ...int) []int {
			if label&^l != 0 {
				return nil
			}
			return numbers
		}
		sleeper := -1
		if l&6 == 6 {
			sleeper = 6
		}
		views(t, k, l,
			with(7, 1, api.Thread, 0, 255, 1),
			with(2, api.Segment, 1), under(1, math.MinInt, 0, 0, 0, 0, 0, 0, math.MaxInt),
			with(3, api.Port, 2), under(2, 3, math.MaxInt, math.MinInt, -1),
			with(4, api.Port, 0, 0),
			with(5, api.Thread, 4), under(4, 9, 1),
			with(6, api.Thread, 6), under(6, 128, 0),
			frees(7, 19),
			with(30, api.Container, 8), under(8, 20, 30, 6, 7),
			with(31, api.Container, 3), under(3, 32, 32, 2, 2),
			with(0, 1, 1, 1, 2, 1, 3, sleeper, 4, 1, 5, 1, 7, 1),
			under(8, append(frees(20, 29), 6, -1)...),
		)
	}
}

// P9: containers come behind what lies beside them, each with all that lies in it, by rising slots.
func TestViewOfContainersInContainers(t *testing.T) {
	k := cloister.Boot()
	goTo(k, 6) // the quantum that the first thread keeps
	play(t, k, []step{
		// Slots of the ranges stand below those of the containers, and the other way round.
		{api.NewContainer, with(0, 30, 1, 3, 10, 0, 2), tells(0, 0)},
		{api.NewContainer, with(0, 2, 2, 11, 20, 2, 6), tells(0, 0)},
		{api.NewContainer, with(0, 29, 0, 20, 24, 7, 8), tells(0, 0)},
		{api.NewContainer, with(2, 19, 2, 11, 14, 3, 5), tells(0, 2)},
		{api.NewContainer, with(2, 15, 6, 16, 18, 5, 6), tells(0, 2)},
		{api.NewContainer, with(19, 12, 3, 11, 12, 3, 4), tells(0, 2)},
		{api.NewContainer, with(30, 9, 1, 3, 5, 0, 2), tells(0, 1)},
		{api.NewContainer, with(29, 20, 0, 32, 32, 7, 8), tells(0, 0)},
		{api.NewSegment, with(12, 11, 3), tells(0, 3)},
	})
	root := func(of2, of30 []int) []int {
		return slices.Concat(with(6, 1, api.Thread, 0, 255, 1, 2, api.Container, 2), of2, frees(10, 10), frees(24, 28),
			with(29, api.Container, 0, 20, 24, 7, 8, 30, api.Container, 1), of30, frees(31, 31), with(6, 1))
	}
	in2 := func(of15 []int) []int {
		return slices.Concat(frees(14, 14), with(15, api.Container, 6), of15, frees(18, 18),
			with(19, api.Container, 2, 11, 14, 3, 5), with(2, -1))
	}
	in15 := slices.Concat(frees(16, 17), with(5, -1))
	in19 := func(of12 []int) []int {
		return slices.Concat(with(12, api.Container, 3), of12, frees(13, 13), with(4, -1))
	}
	in12 := with(11, api.Segment, 3, 0, 0, 0, 0, 0, 0, 0, 0, 3, -1)
	in29 := slices.Concat(with(20, api.Container, 0, 32, 32, 7, 8), frees(21, 23))
	in20 := with(7, -1)
	in30 := slices.Concat(frees(5, 8), with(9, api.Container, 1, 3, 5, 0, 2))
	in9 := slices.Concat(frees(3, 4), with(0, -1, 1, -1))

	views(t, k, 0, root(nil, nil), in29, in20)
	views(t, k, 4, root(nil, nil), in29, in20)
	views(t, k, 1, root(nil, with(3, 10, 0, 2)), in29, in20, in30, in9)
	views(t, k, 2, root(with(11, 20, 2, 6), nil), in2(nil), in19(nil), in29, in20)
	views(t, k, 6, root(with(11, 20, 2, 6), nil), in2(with(16, 18, 5, 6)), in15, in19(nil), in29, in20)
	for _, l := range with(3, 11) {
		views(t, k, l, root(with(11, 20, 2, 6), with(3, 10, 0, 2)),
			in2(nil), in19(with(11, 12, 3, 4)), in12, in29, in20, in30, in9)
	}
	for _, l := range with(7, 255) {
		views(t, k, l, root(with(11, 20, 2, 6), with(3, 10, 0, 2)),
			in2(with(16, 18, 5, 6)), in15, in19(with(11, 12, 3, 4)), in12, in29, in20, in30, in9)
	}

	play(t, k, []step{{api.FreeSlot, with(2), tells(0, 0)}, {api.FreeSlot, with(29), tells(0, 0)}})
	views(t, k, 0, with(6, 1, api.Thread, 0, 255, 1), frees(2, 2), frees(10, 29),
		with(30, api.Container, 1), frees(31, 31), with(2, -1, 3, -1, 4, -1, 5, -1, 6, 1, 7, -1))
}

// P9: a quantum tells its thread if that is still there and may be known, asleep or not.
func TestViewOfQuanta(t *testing.T) {
	k := cloister.Boot()
	play(t, k, []step{
		{api.NewThread, with(0, 2, 0, 0), tells(0, 0)},
		{api.NewThread, with(0, 3, 1, 0), tells(0, 0)},
		{api.NewThread, with(0, 4, 3, 0), tells(0, 0)},
		{api.NewThread, with(0, 5, 0, 0), tells(0, 0)},
		{api.NewThread, with(0, 6, 0, 0), tells(0, 0)},
		{api.NewThread, with(0, 7, 0, 0), tells(0, 0)},
		{api.Give, with(1, 2), tells(0, 0)},
		{api.Give, with(2, 3), tells(0, 0)},
		{api.Give, with(3, 4), tells(0, 0)},
		{api.Give, with(4, 5), tells(0, 0)},
		{api.Give, with(5, 6), tells(0, 0)},
		{api.Give, with(6, 7), tells(0, 0)},
		{api.Drop, with(7), tells(0, 0)},
	})
	quanta := func(l int) []int {
		told := k.View(l)
		return told[len(told)-2*api.Quanta:]
	}
	asks := func(l int, want ...int) {
		t.Helper()
		for q, slot := range want {
			if got := quanta(l)[2*q:][:2]; !slices.Equal(got, with(q, slot)) {
				t.Errorf("View(%d): quantum %d is %v, want %d", l, q, got, slot)
			}
		}
	}
	asks(0, 1, 2, -1, -1, 5, 6, 7, -1)
	asks(1, 1, 2, 3, -1, 5, 6, 7, -1)
	asks(2, 1, 2, -1, -1, 5, 6, 7, -1)
	asks(3, 1, 2, 3, 4, 5, 6, 7, -1)
	for _, phase := range with(1, 3) {
		goTo(k, phase)
		play(t, k, []step{{api.Sleep, nil, tells(0, 0)}})
	}
	goTo(k, 0)
	play(t, k, []step{
		{api.FreeSlot, with(5), tells(0, 0)},
		{api.FreeSlot, with(6), tells(0, 0)},
		{api.NewThread, with(0, 6, 0, 0), tells(0, 0)},
		{api.FreeSlot, with(7), tells(0, 0)},
		{api.NewSegment, with(0, 7, 0), tells(0, 0)},
	})
	asks(0, 1, 2, -1, -1, -1, -1, -1, -1)
	asks(3, 1, 2, 3, 4, -1, -1, -1, -1)
	asks(255, 1, 2, 3, 4, -1, -1, -1, -1)
	play(t, k, []step{
		{api.Give, with(6, 6), tells(0, 0)},
		{api.FreeSlot, with(1), tells(0, 0)},
	})
	asks(0, -1, 2, -1, -1, -1, -1, 6, -1)
}

// P2: what View tells is the caller's, with its spare room; and so it is with every telling.
func TestViewIsNewMemory(t *testing.T) {
	k := nested(t)
	play(t, k, []step{
		{api.NewSegment, with(0, 3, 0), tells(0, 0)},
		{api.Write, with(3, 0, 5), tells(0, 0)},
		{api.NewPort, with(0, 4, 0), tells(0, 0)},
		{api.Send, with(4, 6), tells(0, 0)},
	})
	for _, l := range with(0, 1, 255) {
		first, second := k.View(l), k.View(l)
		want := slices.Clone(first)
		spoil := func(told []int) {
			told = told[:cap(told)]
			for i := range told {
				told[i] = -77
			}
		}
		spoil(first)
		if !slices.Equal(second, want) {
			t.Errorf("View(%d): two tellings share memory", l)
		}
		spoil(second)
		views(t, k, l, want)
	}
	play(t, k, []step{
		{api.Read, with(3, 0), tells(5, 0)},
		{api.Receive, with(4), tells(6, 0)},
	})
}

// P2: what is told behind a trap does not come into what was told ahead of it.
func TestViewStaysAsItWasTold(t *testing.T) {
	k := cloister.Boot()
	play(t, k, []step{
		{api.NewSegment, with(0, 3, 0), tells(0, 0)},
		{api.NewPort, with(0, 4, 0), tells(0, 0)},
	})
	told := k.View(0)
	want := slices.Clone(told)
	play(t, k, []step{
		{api.Write, with(3, 0, 5), tells(0, 0)},
		{api.Send, with(4, 6), tells(0, 0)},
		{api.FreeSlot, with(3), tells(0, 0)},
	})
	k.Tick()
	if !slices.Equal(told, want) {
		t.Errorf("%v has become %v", want, told)
	}
}

// P8, P9: to look at a port, however full, leaves its words as they are, in their order.
func TestViewLeavesPortsAlone(t *testing.T) {
	for count := range api.Room + 1 {
		for out := range count + 1 {
			k := cloister.Boot()
			play(t, k, []step{{api.NewPort, with(0, 2, 0), tells(0, 0)}})
			held := []int{}
			for i := range count {
				play(t, k, []step{{api.Send, with(2, 50+i), tells(0, 0)}})
				held = append(held, 50+i)
			}
			for range out {
				play(t, k, []step{{api.Receive, with(2), tells(held[0], 0)}})
				held = held[1:]
			}
			for range out {
				play(t, k, []step{{api.Send, with(2, 9), tells(0, 0)}})
				held = append(held, 9)
			}
			views(t, k, 0, with(0, 1, api.Thread, 0, 255, 1), with(2, api.Port, 0, len(held)), held, frees(3, 31),
				with(0, 1, 1, 1, 2, 1, 3, 1, 4, 1, 5, 1, 6, 1, 7, 1))
			for _, word := range held {
				play(t, k, []step{{api.Receive, with(2), tells(word, 0)}})
			}
			play(t, k, []step{{api.Receive, with(2), fails(api.ErrEmpty, 0)}})
		}
	}
}

// P5 to P9: whatever threads ask, View tells what has become of it.
func TestViewFollowsTheTraps(t *testing.T) {
	for seed := range 400 {
		random := rand.New(rand.NewSource(int64(seed)))
		k, p := cloister.Boot(), newPlan()
		ask := func(number int, args ...int) {
			who := api.Now{Phase: p.phase, Thread: -1}
			if x := p.now(); x != nil {
				who.Thread, who.Label = x.slot, x.label
			}
			if n := k.Now(); n != who {
				t.Fatalf("seed %d: %+v is current, want %+v", seed, n, who)
			}
			if o := k.Trap(number, args...); o.Err == api.OK {
				p.follow(number, args...)
			}
			for _, l := range with(0, random.Intn(few), random.Intn(api.MaxLabel+1), api.MaxLabel) {
				if got, want := k.View(l), p.view(l); !slices.Equal(got, want) {
					t.Fatalf("seed %d: behind Trap(%d, %v) View(%d) =\n%v, want\n%v", seed, number, args, l, got, want)
				}
			}
		}
		tick := func() {
			k.Tick()
			p.tick()
		}
		for _, c := range crowd {
			ask(c[0], c[1:]...)
		}
		for range 150 {
			number, args := someTrap(random)
			ask(number, args...)
			for again := random.Intn(2) == 0; again; again = k.Now().Thread == -1 && random.Intn(8) > 0 {
				tick()
			}
		}
		for l := range api.MaxLabel + 1 {
			if got, want := k.View(l), p.view(l); !slices.Equal(got, want) {
				t.Fatalf("seed %d: View(%d) =\n%v, want\n%v", seed, l, got, want)
			}
		}
	}
}
