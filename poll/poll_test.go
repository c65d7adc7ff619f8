package poll

import (
	"fmt"
	"math"
	"slices"
	"testing"

	"nightjar/api"
	"nightjar/gate"
	"nightjar/queue"
)

// P13.1: the document's own example.
func TestExample(t *testing.T) {
	q := queue.New(0, 2, 2)
	p := New(2, 1, q)
	for dev := range 2 {
		p.Open(dev)
		p.Watch(dev, uint64(dev), api.Any, api.Level)
	}
	if !p.Post(0, api.In) || !p.Post(1, api.Out) || !p.Post(1, api.In) {
		t.Error("Post")
	}
	if notes := p.Notes(); !slices.Equal(notes, []Note{{Dev: 0, Mask: api.In}}) {
		t.Errorf("Notes = %v", notes)
	}
	if look, _ := p.Look(1); look.Late != api.Out|api.In {
		t.Errorf("Look = %v", look)
	}
	p.Settle()
	if all := q.All(); !slices.Equal(all, []queue.Thing{{Kind: queue.Dev, Index: 0}, {Kind: queue.Dev, Index: 1}}) {
		t.Errorf("there wait %v", all)
	}
}

// sizes are numbers below 0, 0, some, MaxDevs and MaxInbox, and above.
func sizes() []int {
	return []int{math.MinInt, -64, -1, 0, 1, 2, 31, 63, 64, 65, 66, 128, 4096, 4097, 1 << 32, math.MaxInt}
}

// P13.1, P1, P4: so many devices and notes, below 0 as 0 and above 64 as 64: nothing is open, all can be, nothing is
// above its bound.
func TestSizes(t *testing.T) {
	for _, devs := range sizes() {
		for _, notes := range sizes() {
			p := newPair(size{devs: devs, notes: notes, queued: 64, most: 64})
			p.same(t)
			p.settle()
			p.same(t)
			if want := max(0, min(devs, 64)); p.m.devs != want {
				t.Fatalf("New(%d, %d): %d devices; want %d", devs, notes, p.m.devs, want)
			}
			p.useAll(t)
		}
	}
}

// useAll opens and watches all devices, and fills all room for notes.
func (p pair) useAll(t *testing.T) {
	t.Helper()
	for _, dev := range append(noSuch(p.m.devs), 0, p.m.devs/2, p.m.devs-1) {
		p.open(t, dev)
	}
	for dev := range p.m.devs {
		p.open(t, dev)
		p.watch(t, dev, uint64(dev), 7, api.Edge)
	}
	p.same(t)
	for k := range 70 {
		p.post(t, k*7%max(p.m.devs, 1), 1<<(k%3))
	}
	p.same(t)
	if want := p.m.size.notes; p.m.devs > 0 && len(p.p.Notes()) != want {
		t.Fatalf("%d notes; want %d", len(p.p.Notes()), want)
	}
	p.settle()
	p.same(t)
	for range p.m.devs + 1 {
		p.pop(t)
	}
	p.same(t)
	for dev := range p.m.devs {
		p.post(t, dev, 2)
		p.close(t, dev)
	}
	p.same(t)
}

// P13.1, P1, P4: of a device that there is not every call answers false, or 0, and turns nothing.
func TestNoSuchDevice(t *testing.T) {
	pairs := []pair{full(t)}
	for _, devs := range []int{-1, 0, 1, 2, 63, 64, 65} {
		pairs = append(pairs, newPair(sizeOf(devs, 1, 64)), newPair(sizeOf(devs, 0, 1)))
	}
	for _, p := range pairs {
		for _, dev := range noSuch(p.m.devs) {
			if look, ok := p.p.Look(dev); ok || look != (gate.Look{}) {
				t.Fatalf("Look(%d) = %v, %v", dev, look, ok)
			}
			if h, mask := p.p.Tell(dev); h != 0 || mask != 0 {
				t.Fatalf("Tell(%d) = %d, %d", dev, h, mask)
			}
			if p.p.Open(dev) || p.p.Close(dev) || p.p.Watch(dev, 1, 7, 0) || p.p.Unwatch(dev) {
				t.Fatalf("of %d devices there is one %d", p.m.devs, dev)
			}
			for _, mask := range masks() {
				if p.p.Post(dev, mask) || p.p.Ack(dev, mask) != 0 {
					t.Fatalf("of %d devices there is one %d", p.m.devs, dev)
				}
			}
			p.same(t)
		}
		p.settle()
		p.same(t)
	}
}

// P13.1, P4: of a device that isn't open, at first and closed again, every call answers false, or 0, and turns nothing;
// nothing of it is noted, or kept.
func TestNotOpen(t *testing.T) {
	for closed := range 2 {
		for notes := range 3 {
			p := newPair(sizeOf(3, notes, 2))
			p.open(t, 0)
			p.watch(t, 0, 5, 7, api.Level)
			p.post(t, 0, 3)
			if closed == 1 {
				p.open(t, 1)
				p.watch(t, 1, 6, 7, api.Edge)
				p.post(t, 1, 7)
				p.settle()
				p.post(t, 1, 7)
				p.close(t, 1)
			}
			for _, mask := range masks() {
				if p.p.Post(1, mask) || p.p.Ack(1, mask) != 0 || p.p.Watch(1, 6, mask, 0) || p.p.Close(1) || p.p.Unwatch(1) {
					t.Fatalf("%d: it is as if it were open", mask)
				}
				if h, is := p.p.Tell(1); h != 0 || is != 0 {
					t.Fatalf("Tell = %d, %d", h, is)
				}
			}
			if look, ok := p.p.Look(1); !ok || look != (gate.Look{}) {
				t.Fatalf("Look = %v, %v", look, ok)
			}
			p.same(t)
			p.settle()
			p.same(t)
		}
	}
}

// P13.1, P4: one that is open isn't opened again, one that isn't open isn't closed again: all stays as it is.
func TestTwice(t *testing.T) {
	p := full(t)
	for range 2 {
		for dev := range 3 {
			if p.p.Open(dev) {
				t.Errorf("the device %d was opened twice", dev)
			}
			p.same(t)
		}
	}
	for dev := range 3 {
		p.close(t, dev)
		for range 2 {
			if p.p.Close(dev) {
				t.Errorf("the device %d was closed twice", dev)
			}
			p.same(t)
		}
		if got := p.p.Opened(); got != 2-dev {
			t.Errorf("%d are open", got)
		}
	}
}

// P13.1: closed, nothing of a device waits any more, in the notes or in the queue, and of the others all does, in order;
// opened again, it begins anew.
func TestClose(t *testing.T) {
	for dev := range 4 {
		for mode := range 3 {
			p := newPair(size{devs: 4, notes: 9, timers: 2, queued: 4, most: 3})
			p.due(t, 1)
			for k := range 4 {
				p.open(t, k)
				p.watch(t, k, uint64(20+k), 3, mode)
				p.post(t, k, 1)
			}
			p.settle()
			p.due(t, 0)
			for k := range 12 {
				p.post(t, k*3%4, 1<<(k%3))
			}
			p.same(t)
			p.close(t, dev)
			p.same(t)
			for _, n := range p.p.Notes() {
				if n.Dev == dev {
					t.Fatalf("of the device %d there waits %v", dev, n)
				}
			}
			wait := 2 + 2 // the timers, and those of the devices 0, 1 and 2 that are left
			if dev == 3 {
				wait++
			}
			if p.q.Has(device(dev)) || p.q.Len() != wait || p.p.Opened() != 3 {
				t.Fatalf("without the device %d there wait %v", dev, p.q.All())
			}
			p.anew(t, dev)
		}
	}
}

// anew opens a device again, of which nothing is left; all others go on.
func (p pair) anew(t *testing.T, dev int) {
	t.Helper()
	p.open(t, dev)
	if look, _ := p.p.Look(dev); look != (gate.Look{Open: true}) {
		t.Fatalf("opened again: Look = %v", look)
	}
	p.settle()
	p.same(t)
	if look, _ := p.p.Look(dev); look != (gate.Look{Open: true}) || p.q.Has(device(dev)) {
		t.Fatalf("of what was closed there comes %v", look)
	}
	p.watch(t, dev, 99, 7, api.Once)
	p.post(t, dev, 6)
	for range 8 {
		p.settle()
		p.pop(t)
		p.same(t)
	}
	if look, _ := p.p.Look(dev); look != (gate.Look{Open: true, Ready: 6}) {
		t.Fatalf("told once: Look = %v", look)
	}
}

// P13.1, P13.2: where a device's notes are gone there is room for others; what was kept stays kept till all settles.
func TestRoomBehindClose(t *testing.T) {
	p := newPair(sizeOf(3, 3, 3))
	for dev := range 3 {
		p.open(t, dev)
	}
	for _, dev := range []int{0, 1, 0, 2, 1} {
		p.post(t, dev, 1)
	}
	p.close(t, 0)
	if notes := p.p.Notes(); !slices.Equal(notes, []Note{{Dev: 1, Mask: 1}}) {
		t.Errorf("Notes = %v", notes)
	}
	p.post(t, 2, 2)
	p.post(t, 1, 4)
	p.post(t, 2, 4)
	if notes := p.p.Notes(); !slices.Equal(notes, []Note{{Dev: 1, Mask: 1}, {Dev: 2, Mask: 2}, {Dev: 1, Mask: 4}}) {
		t.Errorf("Notes = %v", notes)
	}
	for dev, late := range []int{0, 1, 5} {
		if look, _ := p.p.Look(dev); look.Late != late {
			t.Errorf("of %d there is kept %d; want %d", dev, look.Late, late)
		}
	}
	p.settle()
	p.same(t)
	for dev, ready := range []int{0, 5, 7} {
		if look, _ := p.p.Look(dev); look.Ready != ready || look.Late != 0 {
			t.Errorf("of %d: %v; want ready %d", dev, look, ready)
		}
	}
}

// P13.1, P4: of what comes the bits of Any alone count, noted or kept; where there is none of them nothing comes.
func TestPostMasks(t *testing.T) {
	for _, mask := range masks() {
		p := newPair(sizeOf(2, 1, 2))
		p.open(t, 1)
		for range 3 {
			p.post(t, 1, mask)
			p.same(t)
		}
		look, _ := p.p.Look(1)
		if notes := p.p.Notes(); mask&7 == 0 && (len(notes) != 0 || look != (gate.Look{Open: true})) {
			t.Fatalf("of %d: %v, %v", mask, notes, look)
		} else if mask&7 != 0 && (!slices.Equal(notes, []Note{{Dev: 1, Mask: mask & 7}}) || look.Late != mask&7) {
			t.Fatalf("of %d: %v, %v", mask, notes, look)
		}
		p.settle()
		if look, _ := p.p.Look(1); look != (gate.Look{Open: true, Ready: mask & 7}) {
			t.Fatalf("of %d: %v", mask, look)
		}
	}
}

// P13.1: what is noted isn't ready, nor to be told, till all settles, and isn't put together: note by note.
func TestPostIsNotYetReady(t *testing.T) {
	p := newPair(sizeOf(2, 3, 2))
	p.open(t, 0)
	p.watch(t, 0, 4, 7, api.Level)
	for _, mask := range []int{1, 1, 2, 4, 1} {
		p.post(t, 0, mask)
		p.tell(t, 0)
		p.ack(t, 0, 7)
		p.same(t)
	}
	if notes := p.p.Notes(); !slices.Equal(notes, []Note{{0, 1}, {0, 1}, {0, 2}}) {
		t.Errorf("Notes = %v", notes)
	}
	if look, _ := p.p.Look(0); look != (gate.Look{Open: true, Late: 5, Handle: 4, Want: 7}) || p.q.Len() != 0 {
		t.Errorf("Look = %v", look)
	}
	p.settle()
	if h, mask := p.p.Tell(0); h != 4 || mask != 7 {
		t.Errorf("Tell = %d, %d", h, mask)
	}
}

// waiting is a pair in whose queue the devices 2, 0 and 1 wait, with a timer ahead of each.
func waiting(t *testing.T, mode int) pair {
	p := newPair(size{devs: 3, notes: 3, timers: 3, queued: 3, most: 3})
	for k, dev := range []int{2, 0, 1} {
		p.open(t, dev)
		p.watch(t, dev, uint64(30+dev), 7, mode)
		p.due(t, k)
		p.post(t, dev, 1+dev)
		p.settle()
	}
	if p.q.Len() != 6 {
		t.Fatalf("there wait %v", p.q.All())
	}
	return p
}

// P13.1: behind a Watch that tells true the device is out of the queue, the others stay, and the next Settle puts it to
// the end, if it has something to tell.
func TestWatchWhileItWaits(t *testing.T) {
	for dev := range 3 {
		for mode := range 3 {
			for want := 1; want <= 7; want++ {
				p := waiting(t, api.Edge)
				p.watch(t, dev, 50, want, mode)
				if p.q.Has(device(dev)) || p.q.Len() != 5 {
					t.Fatalf("there wait %v", p.q.All())
				}
				p.same(t)
				p.settle()
				p.same(t)
				if is := (1+dev)&want != 0; p.q.Has(device(dev)) != is || is && p.q.All()[5] != device(dev) {
					t.Fatalf("watched for %d: there wait %v", want, p.q.All())
				}
			}
		}
	}
}

// P13.1, P4: a Watch that tells false lets the device wait where it does, and turns nothing.
func TestWrongWatchWhileItWaits(t *testing.T) {
	p := waiting(t, api.Level)
	for dev := range 3 {
		for _, wrong := range []int{math.MinInt, math.MinInt + 1, -8, -1, 0, 8, 9, 15, 1 << 32, math.MaxInt} {
			if p.p.Watch(dev, 50, wrong, api.Edge) || p.q.Len() != 6 {
				t.Fatalf("watched for %d: there wait %v", wrong, p.q.All())
			}
			if wrong != 0 && (p.p.Watch(dev, 50, 7, wrong) || p.q.Len() != 6) {
				t.Fatalf("watched in the mode %d: there wait %v", wrong, p.q.All())
			}
			p.same(t)
		}
		if p.p.Watch(dev, 50, 7, 3) || p.q.Len() != 6 {
			t.Fatalf("watched in the mode 3: there wait %v", p.q.All())
		}
		p.same(t)
	}
}

// P13.1, P4: behind an Unwatch that tells true the device is out of the queue, and isn't put in; of others nothing turns.
func TestUnwatchWhileItWaits(t *testing.T) {
	for dev := range 3 {
		for mode := range 3 {
			p := waiting(t, mode)
			if p.unwatch(t, dev); p.q.Has(device(dev)) || p.q.Len() != 5 {
				t.Fatalf("there wait %v", p.q.All())
			}
			if p.unwatch(t, dev); p.q.Len() != 5 {
				t.Fatalf("there wait %v", p.q.All())
			}
			p.same(t)
			p.post(t, dev, 7)
			p.settle()
			p.same(t)
			if look, _ := p.p.Look(dev); p.q.Has(device(dev)) || look != (gate.Look{Open: true, Ready: 7}) {
				t.Fatalf("unwatched: %v, there wait %v", look, p.q.All())
			}
		}
	}
}

// P13.1: told once, while it waits, a device is watched no more: an Unwatch tells false, and lets it wait.
func TestUnwatchOfNoneWhileItWaits(t *testing.T) {
	for dev := range 3 {
		p := waiting(t, api.Once)
		if h, mask := p.p.Tell(dev); h != uint64(30+dev) || mask != 1+dev {
			t.Errorf("Tell = %d, %d", h, mask)
		}
		p.m.tell(dev)
		p.same(t)
		if p.p.Unwatch(dev) || !p.q.Has(device(dev)) {
			t.Errorf("unwatched, there wait %v", p.q.All())
		}
		p.same(t)
		p.settle()
		p.same(t)
	}
}

// P13.1: Ack and Tell answer as the gate does, of each device its own, and let the queue be.
func TestAckAndTell(t *testing.T) {
	for mode := range 3 {
		for _, mask := range masks() {
			p := waiting(t, mode)
			for dev := range 3 {
				if was := p.p.Ack(dev, mask); was != (1+dev)&mask {
					t.Fatalf("of %d: Ack(%d) = %d", 1+dev, mask, was)
				}
				p.m.ack(dev, mask)
				p.same(t)
				handle, told := uint64(30+dev), 1+dev
				if mode == api.Level {
					told &^= mask
				}
				if told == 0 {
					handle = 0
				}
				if h, is := p.p.Tell(dev); h != handle || is != told {
					t.Fatalf("mode %d, behind Ack(%d): Tell = %d, %d; want %d, %d", mode, mask, h, is, handle, told)
				}
				p.m.tell(dev)
				p.same(t)
				p.tell(t, dev)
				p.same(t)
			}
			if p.q.Len() != 6 {
				t.Fatalf("there wait %v", p.q.All())
			}
			p.settle()
			p.same(t)
		}
	}
}

// P13.1: all notes are met, and all that was kept, ahead of the first device that is put into the queue; no note waits,
// nothing is kept then, and there is room again.
func TestSettle(t *testing.T) {
	for room := range 8 {
		p := newPair(sizeOf(3, room, 3))
		want := [3]int{}
		for dev := range 3 {
			p.open(t, dev)
			p.watch(t, dev, uint64(dev), 4, api.Level)
		}
		for again := range 3 {
			for k, step := range steps(4 + again) {
				dev, mask := int(step>>8%3), int(step>>16%7)+1
				p.post(t, dev, mask)
				want[dev] |= mask
				if notes := len(p.p.Notes()); notes != min(k+1, room) {
					t.Fatalf("of room %d: %d notes", room, notes)
				}
			}
			p.settle()
			p.same(t)
			for dev, ready := range want {
				look, _ := p.p.Look(dev)
				if look.Ready != ready || look.Late != 0 || p.q.Has(device(dev)) != (ready&4 != 0) {
					t.Fatalf("device %d: %v; want ready %d; there wait %v", dev, look, ready, p.q.All())
				}
			}
			if notes := p.p.Notes(); len(notes) != 0 {
				t.Fatalf("Notes = %v", notes)
			}
		}
	}
}

// P13.1: where nothing came Settle turns nothing but the queue.
func TestSettleOfNothing(t *testing.T) {
	p := newPair(sizeOf(3, 2, 2))
	for dev := range 3 {
		p.settle()
		p.same(t)
		p.open(t, dev)
		p.settle()
		p.watch(t, dev, 1, 7, dev)
		p.settle()
		p.same(t)
		if p.q.Len() != 0 {
			t.Errorf("there wait %v", p.q.All())
		}
	}
}

// wanting is a pair in which of so many devices those of a set, by its bits, have something to tell for ever.
func wanting(t *testing.T, s size, set uint64) (pair, []int) {
	p := newPair(s)
	var list []int
	for dev := range s.devs {
		p.open(t, dev)
		p.watch(t, dev, uint64(100+dev), 2, api.Level)
		if set>>dev&1 == 1 {
			p.post(t, dev, 3)
			list = append(list, dev)
		}
	}
	return p, list
}

// turns settles a pair again and again, and each time takes some things out of its queue: those that always have
// something to tell are told in turn, from one of them on, each once ahead of any one's second time.
func (p pair) turns(t *testing.T, list []int, rounds, pops, from int) {
	t.Helper()
	k := from
	for range rounds {
		p.settle()
		p.same(t)
		if want := min(p.m.most, len(list)); p.q.Devs() != want {
			t.Fatalf("of %v %d may wait, there wait %v", list, p.m.most, p.q.All())
		}
		for range min(pops, p.q.Devs()) {
			x, _ := p.q.Pop()
			p.m.pop()
			if want := list[k%len(list)]; x != device(want) {
				t.Fatalf("of %v, of which %d may wait, the %dth is %v; want %d", list, p.m.most, k, x, want)
			}
			if h, mask := p.p.Tell(x.Index); h != uint64(100+x.Index) || mask != 2 {
				t.Fatalf("Tell = %d, %d", h, mask)
			}
			k++
		}
	}
}

// P13.2: each device has its turn, however few may wait, and however few are told between: of each set of up to five,
// and of all 64.
func TestTurns(t *testing.T) {
	for devs := 1; devs <= 5; devs++ {
		for set := uint64(1); set < 1<<devs; set++ {
			for most := 1; most <= devs+1; most++ {
				for pops := 1; pops <= most; pops++ {
					p, list := wanting(t, sizeOf(devs, 2, most), set)
					p.turns(t, list, 2*devs+1, pops, 0)
				}
			}
		}
	}
	for _, set := range []uint64{math.MaxUint64, 1<<63 | 1, 0xAAAAAAAAAAAAAAAA, 1<<63 | 1<<62 | 1<<31} {
		for _, most := range []int{1, 2, 5, 63, 64, 65} {
			p, list := wanting(t, sizeOf(64, 7, most), set)
			p.turns(t, list, 70, 3, 0)
		}
	}
}

// P13.1, P13.2: the turn goes on behind the last one that was put in, also when others have something to tell then.
func TestTurnGoesOn(t *testing.T) {
	for last := range 5 {
		for most := 1; most <= 5; most++ {
			p, _ := wanting(t, sizeOf(5, 9, most), 1<<last)
			p.turns(t, []int{last}, 1, 1, 0)
			for dev := range 5 {
				p.post(t, dev, 2)
			}
			p.turns(t, []int{0, 1, 2, 3, 4}, 11, 1, last+1)
		}
	}
}

// P13.1: a device that waits already, or that couldn't be put in, doesn't turn which one is looked at first.
func TestTurnStays(t *testing.T) {
	p, _ := wanting(t, sizeOf(4, 9, 1), 1<<1)
	for range 3 {
		p.settle()
	}
	for dev := range 4 {
		p.post(t, dev, 2)
	}
	for range 3 {
		p.settle()
		p.same(t)
	}
	p.turns(t, []int{0, 1, 2, 3}, 9, 1, 1)

	p, _ = wanting(t, sizeOf(4, 9, 3), 0)
	for _, dev := range []int{0, 1, 3} {
		p.post(t, dev, 2)
		p.settle()
	}
	p.ack(t, 3, 7)
	p.watch(t, 3, 103, 2, api.Level)
	p.post(t, 2, 2)
	p.settle()
	p.settle()
	p.same(t)
	if all := p.q.All(); !slices.Equal(all, []queue.Thing{device(0), device(1), device(2)}) {
		t.Errorf("there wait %v", all)
	}
}

// P13.2: a device that has something to tell is put in ahead of any other one's second time, whatever else is done.
func TestNoneIsOvertakenTwice(t *testing.T) {
	for most := 1; most <= 6; most++ {
		p, _ := wanting(t, sizeOf(6, 4, most), 0)
		ahead := [6][6]int{} // by one that has something to tell, and doesn't wait: how often the others were put in
		for _, step := range steps(6000) {
			dev := int(step >> 8 % 6)
			switch step % 4 {
			case 0:
				p.post(t, dev, 3)
			case 1:
				p.ack(t, dev, 7)
			case 2:
				p.pop(t)
			}
			was := p.q.All()
			p.settle()
			p.count(t, was, &ahead)
		}
	}
}

// count counts who was put in ahead of whom.
func (p pair) count(t *testing.T, was []queue.Thing, ahead *[6][6]int) {
	t.Helper()
	for dev := range 6 {
		look, _ := p.p.Look(dev)
		if look.Told == 0 || p.q.Has(device(dev)) {
			ahead[dev] = [6]int{}
			continue
		}
		for _, x := range p.q.All()[len(was):] {
			ahead[dev][x.Index]++
			if ahead[dev][x.Index] > 1 {
				t.Fatalf("the device %d was put in twice ahead of %d", x.Index, dev)
			}
		}
	}
}

// P13.1, P13.2: where no device may wait, or the queue has none, none is put in; nothing is lost for all that.
func TestNoneMayWait(t *testing.T) {
	for _, s := range []size{sizeOf(3, 1, 0), sizeOf(3, 1, -1), {devs: 3, notes: 1, timers: 2, queued: 0, most: 3}} {
		p, _ := wanting(t, s, 7)
		p.due(t, 0)
		for range 3 {
			p.settle()
			p.same(t)
		}
		for dev := range 3 {
			if look, _ := p.p.Look(dev); look.Ready != 3 || look.Told != 2 {
				t.Errorf("device %d: %v", dev, look)
			}
		}
		p.pop(t)
		p.pop(t)
	}
}

// P13.1, P5: timers in the queue stay where they are, in their order, and take no device's room.
func TestTimersBeside(t *testing.T) {
	for most := range 5 {
		p := newPair(size{devs: 4, notes: 2, timers: 6, queued: 4, most: most})
		for dev := range 4 {
			p.open(t, dev)
			p.watch(t, dev, uint64(dev), 7, api.Level)
			p.post(t, dev, 1)
		}
		var due, told []int
		for k := range 60 {
			p.due(t, k*5%6)
			due = append(due, k*5%6)
			p.settle()
			p.same(t)
			if devs := p.q.Devs(); devs != most {
				t.Fatalf("%d may wait: there wait %v", most, p.q.All())
			}
			for len(told) < len(due) {
				if x := p.q.All()[0]; x.Kind == queue.Timer {
					told = append(told, x.Index)
				}
				p.pop(t)
			}
		}
		if !slices.Equal(due, told) {
			t.Errorf("due %v, told %v", due, told)
		}
	}
}

// P13.2: nothing that comes of an open device gets lost, however little room there is: it waits in the notes, or is kept,
// and at the next Settle it is ready, and stays so till it is acknowledged.
func TestNothingIsLost(t *testing.T) {
	for _, room := range []int{-1, 0, 1, 2, 5, 64} {
		for most := range 3 {
			p := newPair(sizeOf(5, room, most))
			var came, ready [5]int
			for _, step := range steps(4000) {
				dev, mask := int(step>>8%5), int(step>>16%16)
				switch step % 16 {
				case 0, 1:
					p.open(t, dev)
				case 2:
					p.close(t, dev)
					came[dev], ready[dev] = 0, 0
				case 3:
					p.watch(t, dev, step, mask, int(step>>24%3))
				case 4:
					p.ack(t, dev, mask)
					ready[dev] &^= mask
				case 5:
					p.pop(t)
				case 6, 7:
					p.settle()
					for k := range came {
						ready[k] |= came[k]
						came[k] = 0
					}
				default:
					if p.p.Post(dev, mask) {
						came[dev] |= mask & 7
					}
					p.m.post(dev, mask)
				}
				p.holds(t, came, ready)
			}
			p.same(t)
		}
	}
}

// holds tells whether what came is noted or kept, and what was met is ready.
func (p pair) holds(t *testing.T, came, ready [5]int) {
	t.Helper()
	var noted [5]int
	for _, n := range p.p.Notes() {
		noted[n.Dev] |= n.Mask
	}
	for dev := range 5 {
		look, _ := p.p.Look(dev)
		if noted[dev]|look.Late != came[dev] || look.Ready != ready[dev] {
			t.Fatalf("of the device %d there came %d, and was ready %d: %v, noted %d", dev, came[dev], ready[dev], look, noted[dev])
		}
	}
}

// P13.2: each bit that comes of a device that is watched by its edges is told, however little room there is.
func TestAllThatComesIsTold(t *testing.T) {
	for room := range 4 {
		for most := 1; most <= 3; most++ {
			p := newPair(sizeOf(4, room, most))
			var came, told [4]int
			for dev := range 4 {
				p.open(t, dev)
				p.watch(t, dev, uint64(dev), 7, api.Edge)
			}
			for _, step := range steps(300) {
				for k := range 3 {
					dev, mask := int(step>>(8*k)%4), int(step>>(8*k+4)%7)+1
					p.post(t, dev, mask)
					came[dev] |= mask
				}
				for dev := range 4 {
					if step>>40%5 == uint64(dev) {
						p.ack(t, dev, 7)
					}
				}
				for range 4 {
					p.settle()
					if x, ok := p.q.Pop(); ok {
						_, mask := p.p.Tell(x.Index)
						told[x.Index] |= mask
					}
				}
				if came != told {
					t.Fatalf("room %d, %d may wait: there came %v, told was %v", room, most, came, told)
				}
				came, told = [4]int{}, [4]int{}
			}
		}
	}
}

// P4: what is told is told by the handle by which the device is watched, never by one of a watch that is over.
func TestToldByTheLastWatch(t *testing.T) {
	for most := 1; most <= 3; most++ {
		p := newPair(sizeOf(3, 2, most))
		var by [3]uint64
		for k, step := range steps(6000) {
			dev := int(step >> 8 % 3)
			switch step % 8 {
			case 0:
				p.p.Open(dev)
			case 1:
				if step>>32%4 == 0 && p.p.Close(dev) {
					by[dev] = 0
				}
			case 2:
				if p.p.Watch(dev, uint64(k)+1, int(step>>16%9), int(step>>24%4)) {
					by[dev] = uint64(k) + 1
				}
			case 3:
				if p.p.Unwatch(dev) {
					by[dev] = 0
				}
			case 4:
				p.p.Settle()
			case 5:
				if x, ok := p.q.Pop(); ok {
					dev = x.Index
				}
				h, mask := p.p.Tell(dev)
				if mask != 0 && (by[dev] == 0 || h != by[dev]) || mask == 0 && h != 0 {
					t.Fatalf("told by %d, watched by %d", h, by[dev])
				}
			default:
				p.p.Post(dev, int(step>>16%8))
			}
		}
	}
}

// call is a call of both, the poll and the model.
type call func(t *testing.T, p pair)

// calls are all calls, of two devices, of one below and one past them, with so many kinds of bits and of modes.
func calls(bits, modes int) []call {
	list := []call{
		func(t *testing.T, p pair) { p.settle() },
		func(t *testing.T, p pair) { p.pop(t) },
	}
	for dev := -1; dev <= 2; dev++ {
		list = append(list,
			func(t *testing.T, p pair) { p.open(t, dev) },
			func(t *testing.T, p pair) { p.close(t, dev) },
			func(t *testing.T, p pair) { p.unwatch(t, dev) },
			func(t *testing.T, p pair) { p.tell(t, dev) },
			func(t *testing.T, p pair) { p.post(t, dev, 8) },
			func(t *testing.T, p pair) { p.watch(t, dev, 6, 8, 0) },
			func(t *testing.T, p pair) { p.watch(t, dev, 6, 7, 3) })
		for mask := 1; mask < 1<<bits; mask++ {
			list = append(list,
				func(t *testing.T, p pair) { p.post(t, dev, mask) },
				func(t *testing.T, p pair) { p.ack(t, dev, mask) })
			for mode := range modes {
				list = append(list, func(t *testing.T, p pair) { p.watch(t, dev, 5, mask, mode) })
			}
		}
	}
	return list
}

// P13.1, P4: every call, right or wrong, in every state that calls lead to; so in every order of calls.
func TestEveryCallInEveryState(t *testing.T) {
	for _, c := range []struct {
		s           size
		bits, modes int
	}{
		{size{devs: 2, notes: 1, queued: 2, most: 1}, 1, 2},
		{size{devs: 2, notes: 0, queued: 2, most: 2}, 1, 3},
		{size{devs: 1, notes: 1, queued: 1, most: 1}, 2, 3},
		{size{devs: 1, notes: 2, queued: 1, most: 1}, 1, 3},
		{size{devs: 0, notes: 1, queued: 1, most: 1}, 1, 3},
	} {
		list := calls(c.bits, c.modes)
		seen := map[string]bool{fmt.Sprint(*newModel(c.s)): true}
		for paths := [][]call{nil}; len(paths) > 0; paths = paths[1:] {
			for _, last := range list {
				p := newPair(c.s)
				for _, earlier := range paths[0] {
					earlier(t, p)
				}
				last(t, p)
				p.same(t)
				if name := fmt.Sprint(*p.m); !seen[name] {
					seen[name] = true
					paths = append(paths, append(slices.Clone(paths[0]), last))
				}
			}
		}
		t.Logf("%+v: %d states", c, len(seen))
	}
}

// P13.1: every order of five out of eleven calls, from a state in which there is something of everything, with all that
// is to be seen behind them.
func TestEveryShortOrder(t *testing.T) {
	chosen := []call{
		func(t *testing.T, p pair) { p.settle() },
		func(t *testing.T, p pair) { p.pop(t) },
		func(t *testing.T, p pair) { p.post(t, 0, 1) },
		func(t *testing.T, p pair) { p.post(t, 1, 2) },
		func(t *testing.T, p pair) { p.close(t, 0) },
		func(t *testing.T, p pair) { p.open(t, 0) },
		func(t *testing.T, p pair) { p.watch(t, 2, 3, 7, api.Once) },
		func(t *testing.T, p pair) { p.watch(t, 0, 4, 6, api.Edge) },
		func(t *testing.T, p pair) { p.unwatch(t, 1) },
		func(t *testing.T, p pair) { p.ack(t, 0, 3) },
		func(t *testing.T, p pair) { p.due(t, 0) },
	}
	count := 1
	for range 5 {
		count *= len(chosen)
	}
	for order := range count {
		p := full(t)
		for rest, i := order, 0; i < 5; rest, i = rest/len(chosen), i+1 {
			chosen[rest%len(chosen)](t, p)
		}
		p.same(t)
	}
}

// mix does one of all calls, chosen by a number.
func (p pair) mix(t *testing.T, step uint64) {
	t.Helper()
	dev, mask := int(step>>8)%(p.m.devs+2)-1, int(step>>20%11)-1
	switch step % 16 {
	case 0, 1:
		p.open(t, dev)
	case 2:
		if step>>40%4 == 0 {
			p.close(t, dev)
		}
	case 3, 4:
		p.watch(t, dev, step>>16, mask, int(step>>28%5)-1)
	case 5:
		p.unwatch(t, dev)
	case 6:
		p.ack(t, dev, mask)
	case 7:
		p.tell(t, dev)
	case 8:
		p.settle()
	case 9, 10:
		p.pop(t)
	case 11:
		p.due(t, dev+1)
	default:
		p.post(t, dev, mask)
	}
}

// P13.1, P13.2, P4: long mixed orders of calls, of sizes of all kinds.
func TestMixedOrder(t *testing.T) {
	for _, s := range []size{
		{-1, -1, 0, 0, 0}, {0, 2, 2, 2, 2}, {1, 0, 1, 1, 1}, {1, 1, 0, 1, 1}, {2, 1, 2, 2, 1}, {3, 64, 3, 3, 2}, {4, 3, 0, 9, 4},
		{5, 2, 5, 5, 0}, {8, 4, 8, 8, 3}, {8, 100, 8, 64, 8}, {64, 8, 64, 64, 5}, {64, 64, 256, 64, 64}, {65, 65, 300, 300, 300},
	} {
		p := newPair(s)
		for _, step := range steps(5000) {
			p.mix(t, step)
			p.same(t)
		}
	}
}

// P2, P3: polls are apart: the calls of one turn nothing of another one, and the same calls are answered the same.
func TestApart(t *testing.T) {
	list := []pair{newPair(sizeOf(4, 2, 2)), newPair(sizeOf(4, 2, 2)), newPair(sizeOf(7, 1, 3))}
	for _, step := range steps(3000) {
		list[0].mix(t, step)
		list[2].mix(t, step>>5)
		for _, p := range list {
			p.same(t)
		}
	}
	for _, step := range steps(3000) {
		list[1].mix(t, step)
	}
	if one, two := fmt.Sprint(*list[0].m), fmt.Sprint(*list[1].m); one != two {
		t.Errorf("%s; and %s", one, two)
	}
	list[0].same(t)
	list[1].same(t)
}

// P13.1: Notes, Opened and Look tell the same, again and again, and turn nothing.
func TestTellingTurnsNothing(t *testing.T) {
	p := full(t)
	for range 5 {
		if notes := p.p.Notes(); !slices.Equal(notes, []Note{{1, 4}, {0, 2}}) || p.p.Opened() != 3 {
			t.Errorf("Notes = %v, Opened = %d", notes, p.p.Opened())
		}
		for dev, want := range []gate.Look{
			{Open: true, Ready: 5, Handle: 10, Want: 1, Told: 1},
			{Open: true, Ready: 2, Handle: 11, Want: 7, Mode: 1, Told: 2},
			{Open: true, Ready: 4, Late: 3},
		} {
			if look, ok := p.p.Look(dev); look != want || !ok {
				t.Errorf("Look(%d) = %v, %v; want %v", dev, look, ok, want)
			}
		}
	}
	p.same(t)
	p.settle()
	p.same(t)
}

// Rules: what Notes answers is new memory, spare room too, and is the caller's to write over.
func TestNotesAreNewMemory(t *testing.T) {
	p := full(t)
	kept, other := p.p.Notes(), p.p.Notes()
	want := slices.Clone(kept)
	other = other[:cap(other)]
	for k := range other {
		other[k] = Note{Dev: 2, Mask: 7}
	}
	p.same(t)
	p.close(t, 1)
	p.post(t, 2, 1)
	p.same(t)
	p.settle()
	p.same(t)
	if !slices.Equal(kept, want) {
		t.Errorf("Notes = %v; want %v", kept, want)
	}
}

// P1: over a queue that was never made, or that has fewer devices, every call ends, and none panics; what comes is ready.
func TestOtherQueues(t *testing.T) {
	for _, q := range []*queue.Queue{nil, queue.New(0, 0, 0), queue.New(3, 2, 9)} {
		p := New(3, 1, q)
		for dev := range 3 {
			if !p.Open(dev) || !p.Watch(dev, 7, 7, api.Level) || !p.Post(dev, 1) || !p.Post(dev, 2) {
				t.Errorf("device %d", dev)
			}
		}
		for range 2 {
			p.Settle()
			for dev := range 3 {
				if h, mask := p.Tell(dev); h != 7 || mask != 3 {
					t.Errorf("Tell = %d, %d", h, mask)
				}
			}
		}
		if p.Ack(2, 7) != 3 || !p.Unwatch(1) || !p.Close(0) || p.Opened() != 2 || len(p.Notes()) != 0 {
			t.Error("Close")
		}
		p.Settle()
	}
}
