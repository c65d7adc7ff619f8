package tenant_test

import (
	"slices"
	"testing"

	"nightjar/alarm"
	"nightjar/api"
	"nightjar/gate"
	"nightjar/poll"
	"nightjar/queue"
)

// P16.1: of several handles of a thing each that is dropped lets one fewer be left, in whichever order; with the last
// one the thing is gone.
func TestDropCounts(t *testing.T) {
	for kind := range 2 {
		for first := range 4 {
			b := newBench(t, size{q: api.Quota{Handles: 8, Timers: 2, Devs: 2, Inbox: 1}, gens: 1, budget: 1})
			b.quick(api.Timer)
			b.quick(api.Open, 1)
			op, num, used := api.Timer, uint64(0), uint64(1)
			if kind == 1 {
				op, num, used = api.Open, 0, 2
			}
			handles := []uint64{b.quick(op, num)}
			for k := range uint64(3) {
				handles = append(handles, b.quick(api.Dup, handles[0], 8+k))
			}
			b.is(2, api.Used, used)
			for k := range 4 {
				b.is(uint64(3-k), api.Drop, handles[(first+k)%4])
				b.fails(api.ErrBadHandle, api.Drop, handles[(first+k)%4])
			}
			b.is(1, api.Used, used)
			b.is(2, api.Used, 0)
			b.is(h(6, 1, 15), op, num)
		}
	}
}

// P16.1, P16.3: the handle by which a timer is Set, or Due, stops it; what else waits goes on in its order.
func TestDropStops(t *testing.T) {
	for _, state := range []int{alarm.Set, alarm.Due} {
		for _, period := range []uint64{0, 2} {
			b, handle := inState(t, state, period)
			b.is(1, api.Drop, handle)
			s := b.x.Shot()
			if s.Timers[1] != (alarm.Row{}) || len(s.Queue) != 0 {
				t.Fatalf("dropped: %+v", s)
			}
			b.fails(api.ErrOff, api.When, h(2, 1, 15))
			b.is(0, api.Stop, h(2, 1, 15))
			b.tells(111)
			b.tells(500)
			b.is(0, api.Arm, h(2, 1, 15), 3)
			b.tells(503, of(h(2, 1, 15), 1))
		}
	}
}

// P16.1: another handle than that doesn't: the timer is told by the one that set it.
func TestDropOfAnother(t *testing.T) {
	for state := range 3 {
		b, handle := inState(t, state, 0)
		before := b.x.Shot().Timers[1]
		b.is(1, api.Drop, h(2, 1, 15))
		if after := b.x.Shot().Timers[1]; after != before {
			t.Fatalf("dropped: %v; was %v", after, before)
		}
		if state == alarm.Idle {
			b.fails(api.ErrOff, api.When, handle)
			b.tells(200)
			continue
		}
		b.is(105, api.When, handle)
		b.tells(111, of(handle, 1))
		b.tells(200)
	}
}

// P16.1: a timer that was set anew by another handle is that one's; the one that set it ahead of that stops nothing.
func TestDropOfTheOneBefore(t *testing.T) {
	for state := range 3 {
		b, handle := inState(t, state, 0)
		b.is(number(state != 0), api.Arm, h(2, 1, 15), 5)
		b.is(1, api.Drop, handle)
		b.is(115, api.When, h(2, 1, 15))
		b.tells(115, of(h(2, 1, 15), 1))
	}
}

// P16.1: what a timer with a period was told by before it goes on with, and what is dropped stops it behind that too.
func TestDropBetweenPeriods(t *testing.T) {
	b := newBench(t, size{q: api.Quota{Handles: 2, Timers: 1, Inbox: 1}, gens: 1, budget: 1, now: 100})
	timer := b.is(h(0, 1, 15), api.Timer)
	second := b.is(h(1, 1, 1), api.Dup, timer, 1)
	b.is(0, api.Arm, second, 5, 10)
	b.tells(105, of(second, 1))
	b.tells(130, of(second, 2))
	b.is(135, api.When, timer)
	b.is(1, api.Drop, second)
	b.fails(api.ErrOff, api.When, timer)
	b.tells(200)
}

// P16.1, P16.3: with its last handle a timer is let go, whatever it was: another one, in its place, has nothing of it.
func TestDropOfTheLast(t *testing.T) {
	for state := range 3 {
		for setter := range 2 {
			b, _ := inState(t, state, 6)
			pair := []uint64{h(1, 1, 15), h(2, 1, 15)}
			b.is(1, api.Drop, pair[setter])
			b.is(0, api.Drop, pair[1-setter])
			s := b.x.Shot()
			if len(s.Timers) != 1 || len(s.Queue) != 0 || !slices.Equal(s.Handles, []uint64{h(0, 1, 15)}) {
				t.Fatalf("dropped: %+v", s)
			}
			b.is(1, api.Used, 1)
			b.tells(150)
			timer := b.is(h(3, 1, 15), api.Timer)
			b.fails(api.ErrOff, api.When, timer)
			b.is(0, api.Stop, timer)
			b.tells(300)
			b.fails(api.ErrQuota, api.Timer)
		}
	}
}

// P16.1, P16.3: the handle by which a device is watched, and waits in the queue, lets it be watched no more; its others
// have it still, as it was.
func TestDropUnwatches(t *testing.T) {
	for mode := range uint64(3) {
		b := watched(t)
		b.is(0, api.Watch, h(0, 1, 15), api.In, mode)
		b.is(0, api.Arm, h(2, 1, 15), 1)
		b.tells(102, of(h(3, 1, 15), 1))
		b.comes(1, api.Out)
		waits := []queue.Thing{{Kind: queue.Timer, Index: 0}, {Kind: queue.Dev, Index: 1}}
		if got := b.x.Shot().Queue; !slices.Equal(got, waits) {
			t.Fatalf("there waits %v; want %v", got, waits)
		}
		b.is(1, api.Drop, h(0, 1, 15))
		s := b.x.Shot()
		if s.Devs[1] != (gate.Look{Open: true, Ready: 5}) || !slices.Equal(s.Queue, waits[:1]) || len(s.Notes) != 1 {
			t.Fatalf("dropped: %+v", s)
		}
		b.is(1, api.Used, 2)
		b.is(0, api.Unwatch, h(1, 1, 15))
		b.tells(103, of(h(2, 1, 15), 1))
		b.tells(104)
		b.is(7, api.Cond, h(1, 1, 15))
		b.is(0, api.Watch, h(1, 1, 15), api.Hup, mode)
		b.tells(105, on(h(1, 1, 15), api.Hup))
	}
}

// P16.1: another handle than that doesn't.
func TestDropOfAnotherOfADevice(t *testing.T) {
	b := watched(t)
	before := b.x.Shot()
	b.is(1, api.Drop, h(1, 1, 15))
	after := b.x.Shot()
	if !slices.Equal(after.Devs, before.Devs) || !slices.Equal(after.Queue, before.Queue) {
		t.Errorf("dropped: %+v; was %+v", after, before)
	}
	b.tells(102, of(h(3, 1, 15), 1))
	b.tells(103, on(h(0, 1, 15), api.In))
	b.is(0, api.Watch, h(0, 1, 15), api.Hup, api.Once)
	b.tells(104, on(h(0, 1, 15), api.Hup))
	b.is(0, api.Drop, h(0, 1, 15))
}

// P16.1: a device that was watched anew by another handle is that one's.
func TestDropOfTheWatcherBefore(t *testing.T) {
	b := watched(t)
	b.is(0, api.Watch, h(1, 1, 15), api.Hup, api.Edge)
	b.is(1, api.Drop, h(0, 1, 15))
	b.tells(102, of(h(3, 1, 15), 1))
	b.tells(103, on(h(1, 1, 15), api.Hup))
	b.tells(104)
}

// P16.1, P16.3: with its last handle a device is closed: nothing of it waits, what comes of it doesn't, and it can be
// opened again, and begins anew.
func TestDropCloses(t *testing.T) {
	for watcher := range 2 {
		b := watched(t)
		b.comes(1, api.Out)
		b.comes(1, api.In)
		b.comes(1, api.Hup)
		if s := b.x.Shot(); len(s.Notes) != 2 || s.Devs[1].Late != api.Hup {
			t.Fatalf("%+v", s)
		}
		pair := []uint64{h(0, 1, 15), h(1, 1, 15)}
		b.is(1, api.Drop, pair[watcher])
		b.is(0, api.Drop, pair[1-watcher])
		s := b.x.Shot()
		if s.Devs[1] != (gate.Look{}) || len(s.Notes) != 0 || !slices.Equal(s.Queue, []queue.Thing{{Kind: queue.Timer, Index: 1}}) {
			t.Fatalf("dropped: %+v", s)
		}
		b.is(0, api.Used, 2)
		if b.ready(1, api.In) {
			t.Error("something came of a device that was closed")
		}
		b.tells(102, of(h(3, 1, 15), 1))
		dev := b.is(h(0, 2, 15), api.Open, 1)
		b.is(0, api.Cond, dev)
		b.is(0, api.Watch, dev, api.Any, api.Level)
		b.tells(103)
		b.comes(1, api.Hup)
		b.tells(104, on(dev, api.Hup))
	}
}

// P16.1: a device that is closed takes its own notes along alone.
func TestDropLeavesOthersNotes(t *testing.T) {
	b := newBench(t, size{q: api.Quota{Handles: 3, Timers: 0, Devs: 3, Inbox: 6}, gens: 1, budget: 9})
	for dev := range uint64(3) {
		b.is(h(dev, 1, 15), api.Open, dev)
		b.is(0, api.Watch, h(dev, 1, 15), api.Any, api.Edge)
	}
	for k := range 6 {
		b.comes(k%3, 1<<(k/2))
	}
	b.is(0, api.Drop, h(1, 1, 15))
	want := []poll.Note{{Dev: 0, Mask: 1}, {Dev: 2, Mask: 2}, {Dev: 0, Mask: 2}, {Dev: 2, Mask: 4}}
	if got := b.x.Shot().Notes; !slices.Equal(got, want) {
		t.Errorf("notes %v", got)
	}
	b.is(4, api.Used, 3)
	b.tells(1, on(h(0, 1, 15), 3), on(h(2, 1, 15), 6))
}

// P16.1: a place whose generations are used up is dead, and gives no handle, though none of it is out; when all are
// there is no handle any more, for ever.
func TestDead(t *testing.T) {
	for _, gens := range []int{1, 2, 3, 7} {
		b := newBench(t, size{q: api.Quota{Handles: 3, Timers: 3, Devs: 3, Inbox: 1}, gens: gens, budget: 1})
		for slot := range uint64(3) {
			for gen := range uint64(gens) {
				if got := b.x.Shot().Dead; got != int(slot) {
					t.Fatalf("%d places are dead; want %d", got, slot)
				}
				var handle uint64
				if gen%2 == 0 {
					handle = b.is(h(slot, gen+1, 15), api.Timer)
				} else {
					handle = b.is(h(slot, gen+1, 15), api.Open, 2)
				}
				b.is(1, api.Used, 0)
				b.is(0, api.Drop, handle)
			}
		}
		if s := b.x.Shot(); s.Dead != 3 || len(s.Handles) != 0 || len(s.Timers) != 0 {
			t.Fatalf("%+v", s)
		}
		for range 3 {
			b.fails(api.ErrQuota, api.Timer)
			b.fails(api.ErrQuota, api.Open, 1)
			b.fails(api.ErrArg, api.Open, 3)
			b.is(0, api.Used, 0)
		}
	}
}

// P16.1, P16.3: with places that are used up there are fewer handles; what is refused turns nothing.
func TestSomeDead(t *testing.T) {
	b := newBench(t, size{q: api.Quota{Handles: 4, Timers: 4, Devs: 2, Inbox: 1}, gens: 2, budget: 1})
	timer := b.is(h(0, 1, 15), api.Timer)
	for gen := range uint64(2) {
		b.is(1, api.Drop, b.is(h(1, gen+1, 15), api.Dup, timer, 15))
	}
	b.is(h(2, 1, 15), api.Open, 0)
	b.is(h(3, 1, 3), api.Dup, timer, 3)
	if s := b.x.Shot(); s.Dead != 1 || len(s.Handles) != 3 {
		t.Fatalf("%+v", s)
	}
	b.fails(api.ErrQuota, api.Timer)
	b.fails(api.ErrQuota, api.Open, 1)
	b.fails(api.ErrQuota, api.Dup, timer, 1)
	b.fails(api.ErrArg, api.Dup, timer, 16)
	b.is(1, api.Drop, h(3, 1, 3))
	b.is(h(3, 2, 15), api.Timer)
	b.is(0, api.Drop, h(3, 2, 15))
	if got := b.x.Shot().Dead; got != 2 {
		t.Errorf("%d places are dead", got)
	}
	b.fails(api.ErrQuota, api.Timer)
	b.is(1, api.Used, 1)
}

// P16.1, P5.2: the greatest generations that there are: a place isn't used up by a few of them.
func TestManyGenerations(t *testing.T) {
	b := newBench(t, size{q: api.Quota{Handles: 1, Timers: 1, Devs: 1, Inbox: 1}, gens: api.MaxGens - 1, budget: 1})
	for gen := range uint64(3000) {
		handle := b.quick(api.Timer)
		if handle != h(0, gen+1, 15) || b.quick(api.Drop, handle) != 0 {
			t.Fatalf("the handle %d is %x", gen, handle)
		}
	}
	b.same()
}
