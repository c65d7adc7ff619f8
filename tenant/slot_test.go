package tenant_test

import (
	"math"
	"slices"
	"testing"

	"nightjar/alarm"
	"nightjar/api"
	"nightjar/gate"
	"nightjar/poll"
	"nightjar/queue"
)

// clocks is a tenant at 100 with so many timers, of the handles h(0, 1, 15) and so on, and so many devices, all open, of
// the handles behind those.
func clocks(t *testing.T, timers, devs, inbox, budget int) *bench {
	q := api.Quota{Handles: timers + devs + 1, Timers: timers, Devs: devs, Inbox: inbox}
	b := newBench(t, size{q: q, gens: 3, budget: budget, now: 100})
	for range timers {
		b.quick(api.Timer)
	}
	for dev := range devs {
		b.quick(api.Open, uint64(dev))
	}
	b.same()
	return b
}

// P16.1, P16.3: where nothing waits nothing is told, at whichever time, as often as one asks.
func TestSlotOfNothing(t *testing.T) {
	b := clocks(t, 1, 1, 1, 3)
	for _, end := range []uint64{100, 100, 101, 5000, 1 << 63, most, most} {
		b.tells(end)
	}
	empty := newBench(t, size{q: api.Quota{Handles: 1, Inbox: 1}, gens: 1, budget: 1})
	empty.tells(0)
	empty.tells(9)
}

// P16.1: a timer is told at the first slot that ends at its time, or past it, and not ahead of it.
func TestSlotNotAhead(t *testing.T) {
	for _, wait := range []uint64{0, 1, 63, 64, 4096, 1 << 40} {
		b := clocks(t, 1, 0, 1, 1)
		b.is(0, api.Arm, h(0, 1, 15), wait)
		if wait > 0 {
			b.tells(100)
			b.tells(100 + wait - 1)
		}
		b.tells(100+wait, of(h(0, 1, 15), 1))
		b.tells(100 + wait)
		b.fails(api.ErrOff, api.When, h(0, 1, 15))
	}
}

// P16.1, P5: timers come by their times, those of one time as they were set, whichever number they have.
func TestSlotOrder(t *testing.T) {
	for _, c := range []struct{ set, waits, want []uint64 }{
		{[]uint64{0, 1, 2, 3}, []uint64{9, 9, 9, 9}, []uint64{0, 1, 2, 3}},
		{[]uint64{3, 2, 1, 0}, []uint64{9, 9, 9, 9}, []uint64{3, 2, 1, 0}},
		{[]uint64{2, 0, 3, 1}, []uint64{9, 9, 9, 9}, []uint64{2, 0, 3, 1}},
		{[]uint64{0, 1, 2, 3}, []uint64{9, 8, 7, 6}, []uint64{3, 2, 1, 0}},
		{[]uint64{3, 2, 1, 0}, []uint64{9, 8, 7, 6}, []uint64{0, 1, 2, 3}},
		{[]uint64{3, 1, 0, 2}, []uint64{9, 2, 9, 2}, []uint64{1, 2, 3, 0}},
		{[]uint64{2, 3, 0, 1}, []uint64{0, 5, 0, 5}, []uint64{2, 0, 3, 1}},
	} {
		for budget := 1; budget <= 5; budget++ {
			b := clocks(t, 4, 0, 1, budget)
			for k, timer := range c.set {
				b.is(0, api.Arm, h(timer, 1, 15), c.waits[k])
			}
			var told []uint64
			for len(told) < 4 {
				items := b.slot(110)
				b.same()
				if len(items) != min(budget, 4-len(told)) {
					t.Fatalf("with a budget of %d: %v", budget, items)
				}
				for _, i := range items {
					told = append(told, i.Handle>>8&255)
				}
			}
			if !slices.Equal(told, c.want) {
				t.Errorf("%v, for %v, are told as %v", c.set, c.waits, told)
			}
		}
	}
}

// P16.1: a timer that was set anew counts as set then.
func TestSlotOrderSetAnew(t *testing.T) {
	b := clocks(t, 3, 0, 1, 3)
	for k := range uint64(3) {
		b.is(0, api.Arm, h(k, 1, 15), 5)
	}
	b.is(1, api.Arm, h(0, 1, 15), 5)
	b.is(1, api.Stop, h(1, 1, 15))
	b.is(0, api.Arm, h(1, 1, 15), 5)
	b.tells(105, of(h(2, 1, 15), 1), of(h(0, 1, 15), 1), of(h(1, 1, 15), 1))
}

// P16.1, P16.3: what there is no budget for waits, ahead of what comes later, and each slot tells as much as it may.
func TestSlotBudget(t *testing.T) {
	b := clocks(t, 3, 2, 2, 2)
	for k := range uint64(2) {
		b.is(0, api.Watch, h(3+k, 1, 15), api.Any, api.Edge)
		b.comes(int(k), 1<<k)
	}
	b.is(0, api.Arm, h(2, 1, 15), 3)
	b.is(0, api.Arm, h(1, 1, 15), 4)
	b.is(0, api.Arm, h(0, 1, 15), 12)
	b.tells(110, of(h(2, 1, 15), 1), of(h(1, 1, 15), 1))
	want := []queue.Thing{{Kind: queue.Dev, Index: 0}, {Kind: queue.Dev, Index: 1}}
	if got := b.x.Shot().Queue; !slices.Equal(got, want) {
		t.Errorf("there waits %v", got)
	}
	b.is(0, api.Arm, h(2, 1, 15), 1)
	b.tells(111, on(h(3, 1, 15), 1), on(h(4, 1, 15), 2))
	b.tells(120, of(h(2, 1, 15), 1), of(h(0, 1, 15), 1))
	b.tells(121)
}

// P16.1: the two timers that are due at one slot are told at two, if there is no more budget than 1 (the document's
// ninth example).
func TestSlotBudgetOfOne(t *testing.T) {
	b := clocks(t, 2, 0, 1, 1)
	b.is(0, api.Arm, h(0, 1, 15), 5)
	b.is(0, api.Arm, h(1, 1, 15), 5)
	b.tells(110, of(h(0, 1, 15), 1))
	b.is(105, api.When, h(1, 1, 15))
	b.tells(120, of(h(1, 1, 15), 1))
	b.tells(130)
}

// P16.1: each budget up to MaxBudget, of more than that many timers.
func TestSlotEachBudget(t *testing.T) {
	for budget := 1; budget <= api.MaxBudget; budget++ {
		b := clocks(t, 40, 0, 1, budget)
		for k := range uint64(40) {
			b.quick(api.Arm, h(k, 1, 15), k%3)
		}
		left := 40
		for end := uint64(103); left > 0; end++ {
			told := b.slot(end)
			if len(told) != min(budget, left) {
				t.Fatalf("with a budget of %d there is told %v of %d", budget, told, left)
			}
			left -= len(told)
		}
		b.tells(500)
	}
}

// P16.1: with a period: how many are over, and when it comes again; those that were missed are one.
func TestSlotPeriods(t *testing.T) {
	for _, c := range []struct{ wait, period, end, val, next uint64 }{
		{5, 10, 105, 1, 115},
		{5, 10, 106, 1, 115},
		{5, 10, 114, 1, 115},
		{5, 10, 115, 2, 125},
		{5, 10, 124, 2, 125},
		{5, 10, 125, 3, 135},
		{5, 1, 105, 1, 106},
		{5, 1, 5000, 4896, 5001},
		{0, 7, 100, 1, 107},
		{0, 7, 100 + 7*9, 10, 170},
		{0, most - 100, 100, 1, most},
		{0, most - 100, most - 1, 1, most},
		{0, 1, most - 1, most - 100, most},
		{1, 1 << 63, 101, 1, 1<<63 + 101},
	} {
		b := clocks(t, 1, 0, 1, 2)
		b.is(0, api.Arm, h(0, 1, 15), c.wait, c.period)
		b.tells(c.end, of(h(0, 1, 15), c.val))
		b.is(c.next, api.When, h(0, 1, 15))
		row := alarm.Row{State: alarm.Set, Handle: h(0, 1, 15), At: c.next, Period: c.period}
		if got := b.x.Shot().Timers[0]; got != row {
			t.Errorf("%+v: %v", c, got)
		}
		b.tells(c.end)
		b.tells(c.next - 1)
		b.slot(c.next)
		b.same()
	}
}

// P16.1: where there is no such time any more a timer is told as 1, and idle.
func TestSlotLastPeriod(t *testing.T) {
	for _, c := range []struct{ wait, period, end uint64 }{
		{0, most, 100},
		{0, most - 99, 100},
		{0, most - 99, most},
		{5, most - 104, 105},
		{0, 1, most},
		{0, 1 << 62, most},
		{most - 100, 1, most},
		{most - 100, most, most},
		{1, 0, 102},
		{1, 0, most},
	} {
		b := clocks(t, 1, 0, 1, 2)
		b.is(0, api.Arm, h(0, 1, 15), c.wait, c.period)
		b.tells(c.end, of(h(0, 1, 15), 1))
		b.fails(api.ErrOff, api.When, h(0, 1, 15))
		b.is(0, api.Stop, h(0, 1, 15))
		b.tells(c.end)
	}
}

// P16.1: a timer that waits longer has more periods over when it is told, and comes once in the queue all the while.
func TestSlotPeriodWaits(t *testing.T) {
	b := clocks(t, 2, 0, 1, 1)
	b.is(0, api.Arm, h(0, 1, 15), 2, 2)
	b.is(0, api.Arm, h(1, 1, 15), 3, 5)
	b.tells(104, of(h(0, 1, 15), 2))
	b.tells(108, of(h(1, 1, 15), 2))
	b.tells(108, of(h(0, 1, 15), 2))
	b.tells(118, of(h(0, 1, 15), 5))
	b.tells(118, of(h(1, 1, 15), 2))
	b.tells(119)
	b.tells(120, of(h(0, 1, 15), 1))
}

// P16.1: timers with periods that come again behind others of one time, as they were set again then.
func TestSlotPeriodsOfOneTime(t *testing.T) {
	b := clocks(t, 3, 0, 1, 2)
	b.is(0, api.Arm, h(0, 1, 15), 5, 10)
	b.is(0, api.Arm, h(1, 1, 15), 15)
	b.is(0, api.Arm, h(2, 1, 15), 5, 10)
	b.tells(105, of(h(0, 1, 15), 1), of(h(2, 1, 15), 1))
	b.tells(115, of(h(1, 1, 15), 1), of(h(0, 1, 15), 1))
	b.tells(115, of(h(2, 1, 15), 1))
}

// P16.1: by its level a device is told as long as it is ready, by its edges once what came, once only once.
func TestSlotModes(t *testing.T) {
	for mode := range uint64(3) {
		b := clocks(t, 0, 1, 3, 2)
		dev := h(0, 1, 15)
		b.is(0, api.Watch, dev, api.In|api.Out, mode)
		b.tells(101)
		b.comes(0, api.In|api.Hup)
		b.tells(102, on(dev, api.In))
		b.is(5, api.Cond, dev)
		switch mode {
		case api.Level:
			b.tells(103, on(dev, api.In))
			b.comes(0, api.Out)
			b.tells(104, on(dev, 3))
			b.is(5, api.Ack, dev, 5)
			b.tells(105, on(dev, api.Out))
			b.is(2, api.Ack, dev, 7)
		case api.Edge:
			b.tells(103)
			b.comes(0, api.Out)
			b.comes(0, api.In)
			b.tells(104, on(dev, 3))
			b.comes(0, api.In)
			b.tells(105, on(dev, api.In))
		case api.Once:
			b.tells(103)
			b.comes(0, api.Out)
			b.tells(104)
			b.is(0, api.Unwatch, dev)
			b.is(0, api.Watch, dev, api.Hup, mode)
			b.tells(105, on(dev, api.Hup))
		}
		b.tells(106)
	}
}

// P16.1: what a device had to tell, and has no more, costs no budget: what waits behind it is told at the same slot.
func TestSlotNothingAnyMore(t *testing.T) {
	for _, devs := range []int{1, 2, 5} {
		b := clocks(t, 2, devs, devs, 1)
		for k := range devs {
			b.is(0, api.Watch, h(uint64(2+k), 1, 15), api.Any, api.Level)
			b.comes(k, api.Out)
		}
		b.is(0, api.Arm, h(0, 1, 15), 0)
		b.is(0, api.Arm, h(1, 1, 15), 5)
		b.tells(102, of(h(0, 1, 15), 1))
		for k := range devs {
			b.is(2, api.Ack, h(uint64(2+k), 1, 15), api.Out)
		}
		if got := b.x.Shot().Queue; len(got) != devs {
			t.Fatalf("there waits %v", got)
		}
		b.tells(105, of(h(1, 1, 15), 1))
		if got := b.x.Shot().Queue; len(got) != 0 {
			t.Fatalf("there waits %v", got)
		}
		b.tells(106)
	}
}

// P16.1: likewise, if all that waits has nothing to tell: nothing is told, and nothing waits.
func TestSlotAllAcknowledged(t *testing.T) {
	b := clocks(t, 1, 3, 3, 1)
	for k := range uint64(3) {
		b.is(0, api.Watch, h(1+k, 1, 15), api.In, api.Level)
		b.comes(int(k), api.In)
	}
	b.is(0, api.Arm, h(0, 1, 15), 0)
	b.tells(100, of(h(0, 1, 15), 1))
	for k := range uint64(3) {
		b.is(1, api.Ack, h(1+k, 1, 15), api.In)
	}
	b.tells(101)
	b.is(0, api.Used, 4)
}

// P16.1: what is told of a device that waits is what it is then, by its level, and what came, by its edges.
func TestSlotToldLater(t *testing.T) {
	for mode := range uint64(3) {
		b := clocks(t, 2, 1, 3, 1)
		dev := h(2, 1, 15)
		b.is(0, api.Watch, dev, api.Any, mode)
		b.comes(0, api.In|api.Out)
		b.is(0, api.Arm, h(0, 1, 15), 0)
		b.tells(100, of(h(0, 1, 15), 1))
		b.is(1, api.Ack, dev, api.In)
		b.comes(0, api.Hup)
		if mode == api.Level {
			b.tells(101, on(dev, api.Out|api.Hup))
		} else {
			b.tells(101, on(dev, api.Any))
		}
	}
}

// P16.1: timers that are due come ahead of devices of the same slot, and behind devices that wait already.
func TestSlotTimersAndDevices(t *testing.T) {
	b := clocks(t, 2, 2, 2, 1)
	for k := range uint64(2) {
		b.is(0, api.Watch, h(2+k, 1, 15), api.In, api.Edge)
		b.comes(int(k), api.In)
	}
	b.is(0, api.Arm, h(1, 1, 15), 1)
	b.is(0, api.Arm, h(0, 1, 15), 2)
	b.tells(101, of(h(1, 1, 15), 1))
	b.tells(102, on(h(2, 1, 15), api.In))
	b.comes(0, api.In)
	b.tells(103, on(h(3, 1, 15), api.In))
	b.tells(104, of(h(0, 1, 15), 1))
	b.tells(105, on(h(2, 1, 15), api.In))
	b.tells(106)
}

// P16.1, P16.3: of the devices that have something to tell so many wait at once as the inbox has room, each in its turn.
func TestSlotInbox(t *testing.T) {
	for inbox := 1; inbox <= 4; inbox++ {
		b := clocks(t, 0, 4, inbox, 1)
		for k := range uint64(4) {
			b.is(0, api.Watch, h(k, 1, 15), api.In, api.Level)
			b.comes(int(k), api.In)
		}
		for end := uint64(101); end < 115; end++ {
			dev := (end - 101) % 4
			b.tells(end, on(h(dev, 1, 15), api.In))
			if got := b.x.Shot().Queue; len(got) != inbox-1 {
				t.Fatalf("with room for %d there waits %v", inbox, got)
			}
		}
	}
}

// P16.1: something comes of a device that is open, watched or not; of one that isn't, and of none, nothing does.
func TestReady(t *testing.T) {
	b := newBench(t, size{q: api.Quota{Handles: 3, Timers: 1, Devs: 3, Inbox: 9}, gens: 2, budget: 4, now: 100})
	b.is(h(0, 1, 15), api.Open, 0)
	b.is(h(1, 1, 15), api.Open, 1)
	b.is(0, api.Watch, h(1, 1, 15), api.Any, api.Edge)
	for _, dev := range []int{math.MinInt, -3, -1, 2, 3, 4, 64, 255, 256, 1 << 32, math.MaxInt} {
		for mask := range 9 {
			if b.x.Ready(dev, mask) {
				t.Errorf("something came of the device %d", dev)
			}
			b.same()
		}
	}
	for dev := range 2 {
		for _, mask := range []int{0, 8, 16, 1 << 32, -8, math.MinInt} {
			if b.ready(dev, mask) {
				t.Errorf("%d came", mask)
			}
			b.same()
		}
	}
	b.comes(0, api.In)
	b.comes(1, api.Out|8)
	b.comes(0, -1)
	want := []poll.Note{{Dev: 0, Mask: 1}, {Dev: 1, Mask: 2}, {Dev: 0, Mask: 7}}
	if got := b.x.Shot().Notes; !slices.Equal(got, want) {
		t.Errorf("notes %v", got)
	}
	b.is(3, api.Used, 3)
	b.is(0, api.Cond, h(0, 1, 15))
	b.tells(101, on(h(1, 1, 15), api.Out))
	b.is(7, api.Cond, h(0, 1, 15))
	b.is(2, api.Cond, h(1, 1, 15))
	b.is(0, api.Used, 3)
	b.is(0, api.Drop, h(1, 1, 15))
	if b.ready(1, api.In) {
		t.Error("something came of a device that was closed")
	}
	b.same()
}

// P16.1, P16.3: with a full box of notes what comes is kept, and told all the same.
func TestReadyWithoutRoom(t *testing.T) {
	for inbox := 1; inbox <= 3; inbox++ {
		b := clocks(t, 0, 3, inbox, 9)
		for k := range uint64(3) {
			b.is(0, api.Watch, h(k, 1, 15), api.Any, api.Edge)
		}
		for range inbox {
			b.comes(0, api.In)
		}
		b.comes(1, api.Out)
		b.comes(1, api.Hup)
		b.comes(0, api.Hup)
		if b.ready(2, 8) || b.ready(3, 1) {
			t.Error("something came of nothing")
		}
		s := b.x.Shot()
		if len(s.Notes) != inbox || s.Devs[0].Late != api.Hup || s.Devs[1].Late != 6 || s.Devs[2] != (gate.Look{Open: true, Handle: h(2, 1, 15), Want: 7, Mode: 1}) {
			t.Fatalf("%+v", s)
		}
		b.is(uint64(inbox), api.Used, 3)
		b.comes(2, api.In)
		var told []api.Item
		for end := uint64(101); end < 105; end++ {
			told = append(told, b.slot(end)...)
			b.same()
		}
		for k, want := range []api.Item{on(h(0, 1, 15), 5), on(h(1, 1, 15), 6), on(h(2, 1, 15), 1)} {
			want.Stamp = 101 + uint64(k/inbox)
			if len(told) != 3 || told[k] != want {
				t.Fatalf("with room for %d is told %v", inbox, told)
			}
		}
	}
}

// P16.1: at the greatest time there is too.
func TestSlotAtTheEnd(t *testing.T) {
	b := newBench(t, size{q: api.Quota{Handles: 2, Timers: 1, Devs: 1, Inbox: 1}, gens: 1, budget: 1, now: most - 1})
	timer := b.is(h(0, 1, 15), api.Timer)
	dev := b.is(h(1, 1, 15), api.Open, 0)
	b.is(0, api.Arm, timer, 1, 1)
	b.is(0, api.Watch, dev, 7, api.Level)
	b.comes(0, 7)
	b.tells(most-1, on(dev, 7))
	b.tells(most, of(timer, 1))
	b.tells(most, on(dev, 7))
	b.is(0, api.Arm, timer, 0, 1)
	b.tells(most, of(timer, 1))
	b.is(most, api.Now)
}
