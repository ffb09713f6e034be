package cloister_test

import (
	"math/rand"
	"slices"
	"testing"

	"cloister/api"
	"cloister/cloister"
)

// town is what the first thread asks to get threads, containers, ports and segments of all labels
// of two categories. Nothing is used for any of it.
var town = [][]int{
	{api.NewContainer, 0, 2, 1, 6, 12, 7, 8},
	{api.NewContainer, 0, 3, 2, 12, 18, 6, 7},
	{api.NewContainer, 0, 4, 3, 18, 22, 5, 6},
	{api.NewThread, 0, 22, 1, 0},
	{api.NewThread, 0, 23, 2, 0},
	{api.NewThread, 0, 24, 3, 1},
	{api.NewThread, 0, 25, 1, 2},
	{api.Give, 1, 22},
	{api.Give, 2, 23},
	{api.Give, 3, 24},
	{api.Give, 4, 25},
	{api.NewPort, 0, 26, 0},
	{api.NewPort, 0, 27, 1},
	{api.NewPort, 0, 28, 2},
	{api.NewPort, 0, 29, 3},
	{api.NewSegment, 0, 30, 1},
	{api.NewSegment, 0, 31, 2},
}

// strangers are threads in the containers of a town that have turns in the root: to get them all is used.
var strangers = [][]int{
	{api.NewThread, 2, 6, 1, 0},
	{api.NewThread, 3, 12, 2, 0},
	{api.NewThread, 4, 18, 3, 0},
	{api.Give, 2, 6},
	{api.Give, 3, 12},
	{api.Give, 4, 18},
	{api.NewThread, 0, 5, 3, 0},
	{api.Give, 1, 5},
	{api.Give, 5, 18},
	{api.Give, 6, 12},
	{api.Give, 7, 6},
	// Refused: it would have a turn that is heard, and could be freed by those who are not.
	{api.NewThread, 4, 19, 0, 0},
	{api.Give, 0, 19},
}

// townTrap chooses a trap that may be, which often meets something in a town.
func townTrap(random *rand.Rand) []int {
	takes := []string{
		api.Self: "", api.Kind: "s", api.Label: "s", api.NewSegment: "csl", api.Read: "si", api.Write: "siv",
		api.NewContainer: "csl", api.FreeSlot: "s", api.NewThread: "csll", api.Give: "qs", api.Drop: "q",
		api.Sleep: "", api.Wake: "s", api.NewPort: "csl", api.Send: "pv", api.Receive: "p",
	}
	number := 1 + random.Intn(len(takes)-1)
	if (number == api.FreeSlot || number == api.Sleep || number == api.Drop) && random.Intn(4) > 0 {
		number = api.Send
	}
	chosen := with(number)
	for _, what := range takes[number] {
		some := random.Intn(api.Slots)
		switch what {
		case 'c':
			some = with(0, 2, 3, 4)[random.Intn(4)]
		case 'p':
			some = 26 + random.Intn(4)
		case 'l':
			some = random.Intn(4)
		case 'q':
			some = random.Intn(api.Quanta)
		case 'i':
			some = random.Intn(api.Words)
		}
		chosen = append(chosen, some)
	}
	if len(chosen) < 4 || number == api.Write {
		return chosen
	}
	// Mostly something is made where it can be.
	ranges := [][]int{0: {5, 6}, 2: {6, 12}, 3: {12, 18}, 4: {18, 22}}[chosen[1]]
	if random.Intn(4) > 0 {
		chosen[2] = ranges[0] + random.Intn(ranges[1]-ranges[0])
	}
	if number == api.NewContainer {
		first := ranges[0] + random.Intn(ranges[1]-ranges[0])
		quantum := []int{0: random.Intn(5), 2: 7, 3: 6, 4: 5}[chosen[1]]
		chosen = append(chosen, first, first+random.Intn(3), quantum, quantum+random.Intn(2))
	}
	return chosen
}

// P10: what a thread does that is not heard under l does not come to be known there, unless the
// trap says that something was used which is not in l.
func TestUnheardTrapsChangeNoView(t *testing.T) {
	hidden := map[int]int{}
	for seed := range 300 {
		random := rand.New(rand.NewSource(int64(seed)))
		k := cloister.Boot()
		for _, c := range slices.Concat(town, strangers) {
			k.Trap(c[0], c[1:]...)
		}
		for range 100 {
			var before [few][]int
			for l := range few {
				before[l] = k.View(l)
			}
			label, c := k.Now().Label, townTrap(random)
			o := k.Trap(c[0], c[1:]...)
			if !slices.Equal(k.View(few-1), before[few-1]) && label != 0 {
				hidden[c[0]]++
			}
			for l := range few {
				if label&^l == 0 || o.Used&^l != 0 {
					continue
				}
				if after := k.View(l); !slices.Equal(after, before[l]) {
					t.Fatalf("seed %d: Trap(%v) = %+v under %d: View(%d) was\n%v, is\n%v", seed, c, o, label, l, before[l], after)
				}
			}
			if random.Intn(3) == 0 {
				k.Tick()
			}
		}
	}
	for number := range counts {
		switch number {
		case api.Self, api.Kind, api.Label, api.Read:
		default:
			if hidden[number] == 0 {
				t.Errorf("no trap %d of a labelled thread has done anything", number)
			}
		}
	}
}

// tape is a kernel, and all that was asked of it, so that a trap can be taken back.
type tape struct {
	k    *cloister.Kernel
	done [][]int // a number and its arguments; a tick is empty
}

func newTape() *tape {
	p := &tape{k: cloister.Boot()}
	for _, c := range town {
		p.ask(c)
	}
	return p
}

func (p *tape) ask(c []int) api.Out {
	p.done = append(p.done, c)
	if len(c) == 0 {
		p.k.Tick()
		return api.Out{}
	}
	return p.k.Trap(c[0], c[1:]...)
}

func (p *tape) takeBack() {
	again := p.done[:len(p.done)-1]
	p.k, p.done = cloister.Boot(), nil
	for _, c := range again {
		p.ask(c)
	}
}

// heard is the current thread, if it is heard under l.
func (p *tape) heard(l int) api.Now {
	n := p.k.Now()
	if n.Label&^l != 0 {
		return api.Now{Phase: n.Phase, Thread: -1}
	}
	return n
}

// whisper lets a thread that is not heard ask what it likes, as long as that uses nothing but l.
func (p *tape) whisper(random *rand.Rand, l int) {
	for range random.Intn(6) {
		if p.heard(l).Thread != -1 {
			return
		}
		if o := p.ask(townTrap(random)); o.Used&^l != 0 {
			p.takeBack()
		}
	}
}

// P10: two kernels in which those who are not heard ask different things are the same to all who are.
func TestTwoKernelsSoundTheSame(t *testing.T) {
	apart := map[int]int{}
	for seed := range 240 {
		l := with(0, 1, 2, 5)[seed%4]
		random := rand.New(rand.NewSource(int64(seed)))
		one, other := newTape(), newTape()
		for range 160 {
			if a, b := one.heard(l), other.heard(l); a != b {
				t.Fatalf("seed %d, l %d: %+v is heard, and %+v", seed, l, a, b)
			}
			if a, b := one.k.View(l), other.k.View(l); !slices.Equal(a, b) {
				t.Fatalf("seed %d: View(%d) is\n%v, and\n%v", seed, l, a, b)
			}
			if one.heard(l).Thread == -1 {
				one.whisper(random, l)
				other.whisper(random, l)
			} else {
				c := townTrap(random)
				a, b := one.ask(c), other.ask(c)
				if (a.Used|b.Used)&^l != 0 {
					one.takeBack()
					other.takeBack()
				} else if a.Err != b.Err || a.Value != b.Value {
					t.Fatalf("seed %d, l %d: Trap(%v) = %+v, and %+v", seed, l, c, a, b)
				}
			}
			if random.Intn(3) == 0 {
				one.ask(nil)
				other.ask(nil)
			}
		}
		if !slices.Equal(one.k.View(api.MaxLabel), other.k.View(api.MaxLabel)) {
			apart[l]++
		}
	}
	for _, l := range with(0, 1, 2, 5) {
		if apart[l] < 30 {
			t.Errorf("l %d: only %d of 60 pairs of kernels came to be different", l, apart[l])
		}
	}
}

// listened is all that a thread which owns nothing is told when it asks everything it can think of.
func listened(k *cloister.Kernel) []int {
	var heard []int
	ask := func(number int, args ...int) {
		o := k.Trap(number, args...)
		heard = append(heard, int(o.Err), o.Value)
		heard = append(heard, k.View(0)...)
	}
	for s := range api.Slots {
		ask(api.Kind, s)
		ask(api.Label, s)
		ask(api.Read, s, 0)
		ask(api.Write, s, 0, s)
		ask(api.Receive, s)
		for range api.Room + 1 {
			ask(api.Send, s, s)
		}
		ask(api.Wake, s)
		for _, c := range with(0, 2, 10, 11) {
			ask(api.NewSegment, c, s, 1)
			ask(api.NewContainer, c, s, 1, 21, 23, 7, 8)
		}
	}
	for q := range api.Quanta {
		if q != k.Now().Phase {
			ask(api.Give, q, 6)
			ask(api.Drop, q)
		}
	}
	for s := range api.Slots {
		if s != k.Now().Thread {
			ask(api.FreeSlot, s)
		}
	}
	return heard
}

// P10: whatever a thread does that owns nothing, one without its label does not hear of it.
func TestNothingIsHeardBelow(t *testing.T) {
	quiet := func(doings []step) ([]int, []int) {
		k := cloister.Boot()
		play(t, k, []step{
			{api.NewContainer, with(0, 2, 1, 10, 20, 4, 7), tells(0, 0)},
			{api.NewPort, with(0, 3, 1), tells(0, 0)},
			{api.NewSegment, with(0, 4, 1), tells(0, 0)},
			{api.NewPort, with(0, 5, 3), tells(0, 0)},
			{api.NewThread, with(0, 6, 1, 0), tells(0, 0)},
			{api.NewThread, with(0, 7, 0, 0), tells(0, 0)},
			{api.NewThread, with(0, 8, 1, 0), tells(0, 0)},
			{api.Give, with(1, 6), tells(0, 0)},
			{api.Give, with(2, 7), tells(0, 0)},
			{api.Give, with(3, 8), tells(0, 0)},
			{api.Send, with(3, 1), tells(0, 0)},
		})
		goTo(k, 1)
		play(t, k, doings)
		whole := k.View(api.MaxLabel)
		goTo(k, 2)
		return listened(k), whole
	}
	silence, still := quiet(nil)
	rows := [][]step{
		{{api.Write, with(4, 0, 9), tells(0, 0)}},
		{{api.Receive, with(3), tells(1, 0)}},
		{{api.Send, with(3, 2), tells(0, 0)}, {api.Send, with(3, 3), tells(0, 0)}, {api.Send, with(3, 4), tells(0, 0)}, {api.Send, with(3, 5), fails(api.ErrFull, 0)}},
		{{api.Send, with(5, 2), tells(0, 0)}},
		{{api.NewSegment, with(2, 10, 1), tells(0, 0)}},
		{{api.NewPort, with(2, 11, 1), tells(0, 0)}, {api.Send, with(11, 2), tells(0, 0)}},
		{{api.NewContainer, with(2, 10, 1, 12, 16, 5, 6), tells(0, 0)}},
		{{api.NewContainer, with(2, 10, 1, 11, 20, 4, 7), tells(0, 0)}, {api.NewThread, with(10, 11, 1, 0), tells(0, 0)}, {api.Give, with(4, 11), tells(0, 0)}},
		{{api.NewThread, with(2, 10, 1, 0), tells(0, 0)}, {api.Give, with(5, 10), tells(0, 0)}},
		{{api.Give, with(4, 6), tells(0, 0)}, {api.Give, with(6, 8), tells(0, 0)}},
		{{api.Sleep, nil, tells(0, 0)}},
	}
	for i, doings := range rows {
		noise, stir := quiet(doings)
		if !slices.Equal(noise, silence) {
			t.Errorf("row %d is heard", i)
		}
		if slices.Equal(stir, still) {
			t.Errorf("row %d does nothing", i)
		}
	}
	refused := []step{
		{api.Write, with(31, 0, 1), fails(api.ErrDead, 0)},
		{api.NewSegment, with(0, 20, 1), fails(api.ErrLabel, 0)},
		{api.FreeSlot, with(4), fails(api.ErrLabel, 0)},
		{api.Wake, with(7), fails(api.ErrLabel, 0)},
		{api.Give, with(2, 6), fails(api.ErrLabel, 0)},
		{api.Give, with(4, 7), fails(api.ErrLabel, 0)},
		{api.Give, with(4, 1), fails(api.ErrLabel, 0)},
		{api.Drop, with(2), fails(api.ErrLabel, 0)},
		{api.Receive, with(5), fails(api.ErrLabel, 0)},
	}
	if noise, stir := quiet(refused); !slices.Equal(noise, silence) || !slices.Equal(stir, still) {
		t.Error("what was refused has done something")
	}
}

// P3, P10: who owns what is missing lets it out, and the kernel says so.
func TestOwnersLetItOut(t *testing.T) {
	y := try(t, 1, 1)
	y.lay(api.NewSegment, 0, 2, 0)
	y.lay(api.NewPort, 0, 3, 0)
	rows := []step{
		{api.Write, with(2, 0, 9), tells(0, 1)},
		{api.Send, with(3, 9), tells(0, 1)},
		{api.NewSegment, with(0, 4, 0), tells(0, 1)},
		{api.NewPort, with(0, 5, 1), tells(0, 1)},
		{api.FreeSlot, with(5), tells(0, 1)},
		{api.Drop, with(5), tells(0, 1)},
	}
	for _, r := range rows {
		goTo(y.k, 1)
		before := y.k.View(0)
		play(t, y.k, []step{r})
		if slices.Equal(y.k.View(0), before) {
			t.Errorf("Trap(%d, %v) is not heard under 0", r.number, r.args)
		}
	}
}
