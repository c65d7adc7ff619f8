package tenant_test

import (
	"math"
	"slices"
	"testing"

	"nightjar/alarm"
	"nightjar/api"
	"nightjar/gate"
	"nightjar/queue"
)

const most = math.MaxUint64

// P16.1: the document's own example.
func TestExample(t *testing.T) {
	b := newBench(t, size{q: api.Quota{Handles: 2, Timers: 1, Devs: 1, Inbox: 1}, gens: 1, budget: 2, now: 100})
	timer := b.is(h(0, 1, 15), api.Timer)
	dev := b.is(h(1, 1, 15), api.Open)
	b.fails(api.ErrBusy, api.Open)
	b.is(0, api.Arm, timer, 5)
	b.is(0, api.Watch, dev, api.In)
	b.comes(0, api.In)
	b.tells(110, of(timer, 1), on(dev, api.In))
}

// quick holds an answer against the model, and nothing else.
func (b *bench) quick(op int, nums ...uint64) uint64 {
	b.t.Helper()
	c := asked(op, nums...)
	want := b.m.call(c, b.now)
	got := b.x.Call(c, b.now)
	if got != want {
		b.t.Fatalf("at %d %v = %v; want %v", b.now, c, got, want)
	}
	return got.Val
}

// full is a tenant that has something of everything: the timer 0 is Set, by a handle that may arm and read alone, the
// timer 1 is Due and in the queue, the timer 2 is Idle; the device 0 isn't open, 1 is watched and in the queue, with
// another handle that may read and be doubled alone, 2 has something to tell, for which there is no room, and something
// that is kept, 3 is open, and has the note that there may be. One place of handles is used up, in the others are
// handles.
func full(t testing.TB) *bench {
	b := newBench(t, size{q: api.Quota{Handles: 9, Timers: 3, Devs: 4, Inbox: 1}, gens: 2, budget: 1, now: 100})
	b.quick(api.Timer)
	b.quick(api.Timer)
	for dev := range uint64(3) {
		b.quick(api.Open, dev+1)
	}
	b.quick(api.Dup, h(0, 1, 15), 5)
	b.quick(api.Dup, h(2, 1, 15), 12)
	for range 2 {
		b.quick(api.Drop, b.quick(api.Dup, h(0, 1, 15), 15))
	}
	b.quick(api.Timer)
	b.quick(api.Arm, h(5, 1, 5), 50, 7)
	b.quick(api.Arm, h(1, 1, 15), 5)
	b.quick(api.Arm, h(8, 1, 15), 4)
	b.quick(api.Watch, h(2, 1, 15), api.In, api.Level)
	b.quick(api.Watch, h(3, 1, 15), api.Any, api.Once)
	b.ready(1, api.In|api.Hup)
	b.ready(2, api.Hup)
	b.slot(110)
	b.ready(3, api.In)
	b.ready(2, api.Out)
	return b
}

// P16.1: full is what it says.
func TestFull(t *testing.T) {
	b := full(t)
	b.same()
	s := b.x.Shot()
	want := []uint64{h(0, 1, 15), h(1, 1, 15), h(2, 1, 15), h(3, 1, 15), h(4, 1, 15), h(5, 1, 5), h(6, 1, 12), h(8, 1, 15)}
	if !slices.Equal(s.Handles, want) || s.Dead != 1 {
		t.Errorf("handles %v, %d are dead", s.Handles, s.Dead)
	}
	rows := []alarm.Row{{State: alarm.Set, Handle: h(5, 1, 5), At: 150, Period: 7}, {State: alarm.Due, Handle: h(1, 1, 15), At: 105}, {}}
	if !slices.Equal(s.Timers, rows) {
		t.Errorf("timers %v", s.Timers)
	}
	looks := []gate.Look{
		{},
		{Open: true, Ready: 5, Handle: h(2, 1, 15), Want: 1, Told: 1},
		{Open: true, Ready: 4, Late: 2, Handle: h(3, 1, 15), Want: 7, Mode: 2, Told: 4},
		{Open: true},
	}
	if !slices.Equal(s.Devs, looks) || len(s.Notes) != 1 || s.Notes[0].Dev != 3 {
		t.Errorf("devices %v, notes %v", s.Devs, s.Notes)
	}
	if !slices.Equal(s.Queue, []queue.Thing{{Kind: queue.Timer, Index: 1}, {Kind: queue.Dev, Index: 1}}) {
		t.Errorf("queue %v", s.Queue)
	}
}

// P16.1, P16.2, P1: of no Op there is an answer but ErrArg, whatever its numbers are.
func TestNoSuchOp(t *testing.T) {
	b := full(t)
	for _, op := range []int{math.MinInt, -1 << 32, -256, -2, -1, 13, 14, 15, 64, 255, 256, 1 << 32, 1<<32 + 1, math.MaxInt} {
		for _, a := range []uint64{0, 1, 13, h(0, 1, 15), h(2, 1, 15), h(7, 1, 15), most} {
			b.fails(api.ErrArg, op, a, 1, 1)
		}
	}
}

// P16.1: each device below Devs is opened once, with all rights; past the last one there is none.
func TestOpen(t *testing.T) {
	for _, devs := range []int{0, 1, 2, 3, 63, 64} {
		b := newBench(t, size{q: api.Quota{Handles: 80, Timers: 1, Devs: devs, Inbox: 1}, gens: 1, budget: 1, now: 7})
		for _, past := range []int{devs, devs + 1, 64, 65, 255, 256} {
			b.fails(api.ErrArg, api.Open, uint64(past))
		}
		for _, past := range []uint64{1 << 16, 1 << 31, 1 << 32, 1<<32 + 1, 1 << 63, 1<<63 + 1, most - 1, most} {
			b.fails(api.ErrArg, api.Open, past)
		}
		for k := range devs {
			dev := devs - 1 - k
			handle := b.is(h(uint64(k), 1, 15), api.Open, uint64(dev))
			if looks := b.x.Shot().Devs; looks[dev] != (gate.Look{Open: true}) {
				t.Fatalf("the device %d was opened: %v", dev, looks)
			}
			b.fails(api.ErrBusy, api.Open, uint64(dev))
			b.is(0, api.Cond, handle)
			b.is(uint64(k+1), api.Used, 2)
		}
	}
}

// P16.1, P16.2, P16.3: where no handle is left, none is opened; which error comes first.
func TestOpenQuota(t *testing.T) {
	b := newBench(t, size{q: api.Quota{Handles: 2, Timers: 1, Devs: 3, Inbox: 1}, gens: 9, budget: 1})
	first := b.is(h(0, 1, 15), api.Open, 1)
	b.is(h(1, 1, 7), api.Dup, first, 7)
	b.fails(api.ErrArg, api.Open, 3)
	b.fails(api.ErrBusy, api.Open, 1)
	b.fails(api.ErrQuota, api.Open, 0)
	b.fails(api.ErrQuota, api.Open, 2)
	b.is(1, api.Drop, first)
	b.fails(api.ErrBusy, api.Open, 1)
	b.is(h(0, 2, 15), api.Open, 2)
	b.fails(api.ErrQuota, api.Open, 0)
}

// P16.1, P16.2, P16.3: so many timers, and handles, and no more; the first place that is free comes first.
func TestTimer(t *testing.T) {
	for _, c := range []struct{ handles, timers int }{{1, 0}, {1, 1}, {1, 2}, {2, 1}, {3, 3}, {4, 3}, {3, 4}, {256, 256}, {256, 255}, {255, 256}} {
		b := newBench(t, size{q: api.Quota{Handles: c.handles, Timers: c.timers, Inbox: 1}, gens: 2, budget: 1})
		count := min(c.handles, c.timers)
		for k := range count {
			b.is(h(uint64(k), 1, 15), api.Timer)
			b.fails(api.ErrOff, api.When, h(uint64(k), 1, 15))
		}
		b.fails(api.ErrQuota, api.Timer)
		b.fails(api.ErrQuota, api.Timer)
		b.is(uint64(count), api.Used, 1)
		if count > 1 {
			b.is(0, api.Drop, h(1, 1, 15))
			b.is(0, api.Drop, h(0, 1, 15))
			b.is(h(0, 2, 15), api.Timer)
			b.is(0, api.Arm, h(0, 2, 15), 3)
			b.is(h(1, 2, 15), api.Timer)
			b.fails(api.ErrOff, api.When, h(1, 2, 15))
			b.fails(api.ErrQuota, api.Timer)
		}
	}
}

// P16.1, P16.3: a timer that couldn't have a handle isn't one: when there is a handle again, there are as many as before.
func TestTimerWithoutHandle(t *testing.T) {
	b := newBench(t, size{q: api.Quota{Handles: 2, Timers: 2, Devs: 2, Inbox: 1}, gens: 9, budget: 1})
	dev := b.is(h(0, 1, 15), api.Open)
	more := b.is(h(1, 1, 15), api.Dup, dev, 15)
	for range 5 {
		b.fails(api.ErrQuota, api.Timer)
		b.fails(api.ErrQuota, api.Open, 1)
		b.fails(api.ErrQuota, api.Dup, dev, 15)
	}
	b.is(1, api.Drop, more)
	b.is(0, api.Drop, dev)
	b.is(h(0, 2, 15), api.Timer)
	b.is(h(1, 2, 15), api.Timer)
	b.is(2, api.Used, 1)
}

// P16.1, P16.2: of each 16 rights each other ones: a double has none that its handle lacks.
func TestDupRights(t *testing.T) {
	for rights := range uint64(16) {
		for kind := range 2 {
			b := newBench(t, size{q: api.Quota{Handles: 40, Timers: 2, Devs: 2, Inbox: 1}, gens: 1, budget: 1, now: 100})
			b.quick(api.Timer)
			b.quick(api.Open, 1)
			handle := b.is(h(2, 1, rights), api.Dup, h(uint64(kind), 1, 15), rights)
			slot := uint64(3)
			for _, want := range []uint64{0, 1, 2, 3, 4, 5, 6, 7, 8, 9, 10, 11, 12, 13, 14, 15, 16, 17, 24, 31, 32, 240, 255, 256, 257, 1 << 32, 1<<32 + 8, 1 << 63, most - 7, most} {
				switch {
				case rights < 8:
					b.fails(api.ErrRights, api.Dup, handle, want)
				case want > 15:
					b.fails(api.ErrArg, api.Dup, handle, want)
				case want&rights != want:
					b.fails(api.ErrRights, api.Dup, handle, want)
				default:
					b.is(h(slot, 1, want), api.Dup, handle, want)
					slot++
				}
			}
		}
	}
}

// P16.1: a double is for the same thing, of whichever kind, and a double of a double too.
func TestDupThing(t *testing.T) {
	b := newBench(t, size{q: api.Quota{Handles: 8, Timers: 2, Devs: 2, Inbox: 2}, gens: 1, budget: 4, now: 100})
	b.is(h(0, 1, 15), api.Timer)
	timer := b.is(h(1, 1, 15), api.Timer)
	b.is(h(2, 1, 15), api.Open, 0)
	dev := b.is(h(3, 1, 15), api.Open, 1)
	second := b.is(h(4, 1, 13), api.Dup, timer, 13)
	third := b.is(h(5, 1, 4), api.Dup, second, 4)
	other := b.is(h(6, 1, 9), api.Dup, dev, 9)
	b.is(0, api.Arm, second, 10)
	for _, handle := range []uint64{timer, second, third} {
		b.is(110, api.When, handle)
	}
	b.fails(api.ErrOff, api.When, h(0, 1, 15))
	b.is(0, api.Watch, other, 2)
	b.comes(1, 2)
	b.comes(0, 2)
	b.tells(120, of(second, 1), on(other, 2))
	b.is(2, api.Used, 1)
	b.is(2, api.Used, 2)
	b.is(7, api.Used, 0)
}

// P16.2: of the errors of a call on a handle: no handle, then the kind, then the rights, then its other numbers, and last that there is no handle left.
func TestWhichErrorFirst(t *testing.T) {
	b := full(t)
	none, timer, dev := h(7, 1, 15), h(0, 1, 15), h(4, 1, 15)
	armer, reader := h(5, 1, 5), h(6, 1, 12) // of the timer 0, and of the device 1
	for _, c := range []struct {
		op   int
		nums []uint64
		err  api.Errno
	}{
		{api.Dup, []uint64{none, 16}, api.ErrBadHandle},
		{api.Dup, []uint64{none, 1}, api.ErrBadHandle},
		{api.Dup, []uint64{armer, 16}, api.ErrRights},
		{api.Dup, []uint64{armer, 1}, api.ErrRights},
		{api.Dup, []uint64{reader, 16}, api.ErrArg},
		{api.Dup, []uint64{reader, most}, api.ErrArg},
		{api.Dup, []uint64{reader, 1}, api.ErrRights},
		{api.Dup, []uint64{reader, 15}, api.ErrRights},
		{api.Dup, []uint64{reader, 12}, api.ErrQuota},
		{api.Dup, []uint64{reader, 0}, api.ErrQuota},
		{api.Drop, []uint64{none}, api.ErrBadHandle},
		{api.Drop, []uint64{h(7, 2, 15)}, api.ErrBadHandle},
		{api.Arm, []uint64{none, most}, api.ErrBadHandle},
		{api.Arm, []uint64{reader, most}, api.ErrKind},
		{api.Arm, []uint64{dev, most}, api.ErrKind},
		{api.Arm, []uint64{timer, most}, api.ErrRange},
		{api.Arm, []uint64{armer, most}, api.ErrRange},
		{api.Stop, []uint64{none}, api.ErrBadHandle},
		{api.Stop, []uint64{reader}, api.ErrKind},
		{api.Stop, []uint64{armer}, api.ErrRights},
		{api.When, []uint64{none}, api.ErrBadHandle},
		{api.When, []uint64{reader}, api.ErrKind},
		{api.When, []uint64{h(8, 1, 15)}, api.ErrOff},
		{api.Watch, []uint64{none, 0, 3}, api.ErrBadHandle},
		{api.Watch, []uint64{armer, 0, 3}, api.ErrKind},
		{api.Watch, []uint64{reader, 0, 3}, api.ErrRights},
		{api.Watch, []uint64{reader, 1, 1}, api.ErrRights},
		{api.Watch, []uint64{dev, 0, 0}, api.ErrArg},
		{api.Unwatch, []uint64{none}, api.ErrBadHandle},
		{api.Unwatch, []uint64{armer}, api.ErrKind},
		{api.Unwatch, []uint64{reader}, api.ErrRights},
		{api.Cond, []uint64{none}, api.ErrBadHandle},
		{api.Cond, []uint64{armer}, api.ErrKind},
		{api.Ack, []uint64{none, 8}, api.ErrBadHandle},
		{api.Ack, []uint64{armer, 8}, api.ErrKind},
		{api.Ack, []uint64{reader, 8}, api.ErrArg},
		{api.Open, []uint64{4}, api.ErrArg},
		{api.Open, []uint64{1}, api.ErrBusy},
		{api.Open, []uint64{0}, api.ErrQuota},
		{api.Timer, nil, api.ErrQuota},
	} {
		b.fails(c.err, c.op, c.nums...)
	}
}

// P16.2: a handle that lacks the one right that a call needs can't ask it; with that one alone it can. A handle without
// any right can be dropped.
func TestRights(t *testing.T) {
	nums := map[int][]uint64{api.Arm: {9}, api.Watch: {1}, api.Ack: {7}, api.Dup: {0}}
	needed := map[int]uint64{2: 8, 4: 1, 5: 2, 6: 4, 7: 1, 8: 2, 9: 4, 10: 4}
	for rights := range uint64(16) {
		for op := 2; op <= 10; op++ {
			for _, thing := range []uint64{0, 1} {
				if op >= api.Arm && (op >= api.Watch) != (thing == 1) {
					continue
				}
				b := newBench(t, size{q: api.Quota{Handles: 4, Timers: 1, Devs: 1, Inbox: 1}, gens: 1, budget: 1, now: 100})
				b.quick(api.Timer)
				b.quick(api.Open)
				b.quick(api.Arm, h(0, 1, 15), 5)
				handle := b.is(h(2, 1, rights), api.Dup, h(thing, 1, 15), rights)
				got := b.call(asked(op, append([]uint64{handle}, nums[op]...)...))
				want := api.OK
				if rights&needed[op] != needed[op] {
					want = api.ErrRights
				}
				if got.Code != want {
					t.Fatalf("with the rights %d the call %d is %v", rights, op, got)
				}
				b.same()
			}
		}
	}
}

// P16.2, P4: of all bits around those of the handles that are out none is one but these, whoever asks for what.
func TestMadeUpHandles(t *testing.T) {
	b := full(t)
	out := b.x.Shot().Handles
	var tried []uint64
	for slot := range uint64(11) {
		for gen := range uint64(4) {
			for rights := range uint64(18) {
				tried = append(tried, h(slot, gen, rights))
			}
		}
	}
	for _, handle := range out {
		for bit := range 64 {
			tried = append(tried, handle^1<<bit)
		}
	}
	tried = append(tried, 0, 1, 2, 255, 256, 1<<24, 1<<63, most-1, most)
	bad := 0
	for _, a := range tried {
		if slices.Contains(out, a) {
			continue
		}
		bad++
		for _, op := range []int{api.Dup, api.Drop, api.Arm, api.Stop, api.When, api.Watch, api.Unwatch, api.Cond, api.Ack} {
			if got := b.x.Call(asked(op, a, 1, 1), 110); got != (api.Result{Code: api.ErrBadHandle}) {
				t.Fatalf("%x is a handle: the call %d is %v", a, op, got)
			}
		}
	}
	if bad < 1000 {
		t.Errorf("there were %d tried", bad)
	}
	b.same()
}

// P16.1, P16.2, P4: a handle that was revoked is none, though its place gives another one.
func TestRevoked(t *testing.T) {
	b := newBench(t, size{q: api.Quota{Handles: 2, Timers: 2, Devs: 1, Inbox: 1}, gens: 50, budget: 1})
	var had []uint64
	for gen := uint64(1); gen <= 50; gen++ {
		var handle uint64
		if gen%2 == 0 {
			handle = b.is(h(0, gen, 15), api.Timer)
		} else {
			handle = b.is(h(0, gen, 15), api.Open)
		}
		for _, old := range had {
			b.fails(api.ErrBadHandle, api.Drop, old)
			b.fails(api.ErrBadHandle, api.Stop, old)
			b.fails(api.ErrBadHandle, api.Cond, old)
			b.fails(api.ErrBadHandle, api.Dup, old, 1)
		}
		b.is(0, api.Drop, handle)
		had = append(had, handle)
	}
}

// inState is a tenant with a timer that is Idle (0), Set for 105 (1), or Due and in the queue, behind another one (2),
// at 110, with a period; and its handle.
func inState(t *testing.T, state int, period uint64) (*bench, uint64) {
	b := newBench(t, size{q: api.Quota{Handles: 4, Timers: 2, Devs: 1, Inbox: 1}, gens: 1, budget: 1, now: 100})
	b.quick(api.Timer)
	handle := b.quick(api.Timer)
	b.quick(api.Dup, handle, 15)
	if state != alarm.Idle {
		b.quick(api.Arm, handle, 5, period)
	}
	if state == alarm.Due {
		b.quick(api.Arm, h(0, 1, 15), 5)
		b.quick(api.Arm, handle, 5, period)
		b.slot(110)
	}
	b.now = 110
	b.same()
	if got := b.x.Shot().Timers[1].State; got != state {
		t.Fatalf("the state is %d; want %d", got, state)
	}
	return b, handle
}

// P16.1: arm, of a timer in each state, for now, later, and the last time there is, with periods and without.
func TestArm(t *testing.T) {
	for state := range 3 {
		for _, was := range []uint64{0, 3} {
			for _, wait := range []uint64{0, 1, 2, 1000, 1 << 32, 1 << 63, most - 111, most - 110} {
				for _, period := range []uint64{0, 1, 20, 1 << 63, most} {
					for by := range 2 {
						b, handle := inState(t, state, was)
						if by == 1 {
							handle = h(2, 1, 15)
						}
						b.is(number(state != alarm.Idle), api.Arm, handle, wait, period)
						row := alarm.Row{State: alarm.Set, Handle: handle, At: 110 + wait, Period: period}
						if s := b.x.Shot(); s.Timers[1] != row || len(s.Queue) != 0 {
							t.Fatalf("armed for %d: %+v", wait, s)
						}
						b.is(110+wait, api.When, handle)
						b.cycle(t, handle, wait, period)
					}
				}
			}
		}
	}
}

// cycle goes to where a timer is due, that was armed at 110, and past it.
func (b *bench) cycle(t *testing.T, handle, wait, period uint64) {
	t.Helper()
	if wait > 0 {
		b.tells(110 + wait - 1)
	}
	b.tells(110+wait, of(handle, 1))
	row := b.x.Shot().Timers[1]
	if next := 110 + wait + period; period == 0 || next < period {
		if row != (alarm.Row{}) {
			t.Fatalf("told, it is %v", row)
		}
		b.fails(api.ErrOff, api.When, handle)
	} else if row != (alarm.Row{State: alarm.Set, Handle: handle, At: next, Period: period}) {
		t.Fatalf("told, it is %v", row)
	}
}

// P16.1, P16.2: where now and how long are 2^64 or more, nothing is armed, and what was armed stays.
func TestArmRange(t *testing.T) {
	for state := range 3 {
		for _, wait := range []uint64{most - 109, most - 108, most - 1, most} {
			b, handle := inState(t, state, 4)
			b.fails(api.ErrRange, api.Arm, handle, wait)
			b.fails(api.ErrRange, api.Arm, handle, wait, 9)
			b.is(number(state != alarm.Idle), api.Stop, handle)
		}
	}
	for _, now := range []uint64{0, 1, 1 << 63, most - 1, most} {
		b := newBench(t, size{q: api.Quota{Handles: 1, Timers: 1, Inbox: 1}, gens: 1, budget: 1, now: now})
		timer := b.is(h(0, 1, 15), api.Timer)
		if now > 0 {
			b.fails(api.ErrRange, api.Arm, timer, most-now+1)
			b.fails(api.ErrRange, api.Arm, timer, most)
		}
		b.is(0, api.Arm, timer, most-now)
		b.is(most, api.When, timer)
		b.is(1, api.Arm, timer, 0)
		b.is(now, api.When, timer)
	}
}

// P16.1: stop and when, of a timer in each state, with a period and without, by the handle that set it, and another one.
func TestStopAndWhen(t *testing.T) {
	for state := range 3 {
		for _, period := range []uint64{0, 3} {
			for _, handle := range []uint64{h(1, 1, 15), h(2, 1, 15)} {
				b, _ := inState(t, state, period)
				was := number(state != alarm.Idle)
				if state == alarm.Idle {
					b.fails(api.ErrOff, api.When, handle)
				} else {
					b.is(105, api.When, handle)
				}
				b.is(was, api.Stop, handle)
				if s := b.x.Shot(); s.Timers[1] != (alarm.Row{}) || len(s.Queue) != 0 {
					t.Fatalf("stopped: %+v", s)
				}
				b.fails(api.ErrOff, api.When, handle)
				b.is(0, api.Stop, handle)
				b.tells(110)
				b.tells(500)
				b.is(0, api.Arm, handle, 1)
				b.tells(501, of(handle, 1))
			}
		}
	}
}

// P16.1: a timer that is stopped, and armed again, while it waits, waits anew, behind others.
func TestArmBehindOthers(t *testing.T) {
	b := newBench(t, size{q: api.Quota{Handles: 3, Timers: 3, Inbox: 1}, gens: 1, budget: 1, now: 100})
	for k := range uint64(3) {
		b.is(h(k, 1, 15), api.Timer)
		b.is(0, api.Arm, h(k, 1, 15), 2)
	}
	b.tells(102, of(h(0, 1, 15), 1))
	b.is(1, api.Arm, h(1, 1, 15), 0)
	b.tells(102, of(h(2, 1, 15), 1))
	b.tells(102, of(h(1, 1, 15), 1))
	b.tells(102)
}

// watched is a tenant with the device 1, which has In and Hup ready, and is watched by h(0, 1, 15), for In, by its level,
// and in the queue, behind a timer that is Due; h(1, 1, 15) is another handle of it.
func watched(t *testing.T) *bench {
	b := newBench(t, size{q: api.Quota{Handles: 5, Timers: 2, Devs: 2, Inbox: 2}, gens: 2, budget: 1, now: 100})
	dev := b.quick(api.Open, 1)
	b.quick(api.Dup, dev, 15)
	for k := range uint64(2) {
		b.quick(api.Timer)
		b.quick(api.Arm, h(2+k, 1, 15), 1)
	}
	b.quick(api.Watch, dev, api.In, api.Level)
	b.ready(1, api.In|api.Hup)
	b.slot(101)
	b.same()
	want := []queue.Thing{{Kind: queue.Timer, Index: 1}, {Kind: queue.Dev, Index: 1}}
	if got := b.x.Shot().Queue; !slices.Equal(got, want) {
		t.Fatalf("there waits %v", got)
	}
	return b
}

// P16.1, P16.2: watch with all masks and modes, and others, by the handle that watches, and another one: what is to be
// told is by the last one, and what waited doesn't.
func TestWatch(t *testing.T) {
	masks := []uint64{0, 1, 2, 3, 4, 5, 6, 7, 8, 9, 15, 16, 256, 1 << 32, 1<<32 + 1, 1 << 63, 1<<63 + 7, most}
	modes := []uint64{0, 1, 2, 3, 4, 7, 256, 1 << 32, 1<<32 + 1, 1 << 63, most - 1, most}
	for _, mask := range masks {
		for _, mode := range modes {
			for by := range uint64(2) {
				b := watched(t)
				handle := h(by, 1, 15)
				if mask == 0 || mask > 7 || mode > 2 {
					b.fails(api.ErrArg, api.Watch, handle, mask, mode)
					b.tells(102, of(h(3, 1, 15), 1))
					b.tells(103, on(h(0, 1, 15), 1))
					continue
				}
				b.is(0, api.Watch, handle, mask, mode)
				s := b.x.Shot()
				want := gate.Look{Open: true, Ready: 5, Handle: handle, Want: int(mask), Mode: int(mode), Told: int(5 & mask)}
				if s.Devs[1] != want || len(s.Queue) != 1 {
					t.Fatalf("watched for %d, %d: %+v", mask, mode, s)
				}
				b.tells(102, of(h(3, 1, 15), 1))
				b.watchedTells(handle, mask, mode)
			}
		}
	}
}

// watchedTells goes on from where In and Hup are ready: by its level a device tells them again, else once.
func (b *bench) watchedTells(handle, mask, mode uint64) {
	b.t.Helper()
	told := 5 & mask
	if told == 0 {
		b.tells(103)
		b.comes(1, int(mask))
		told = mask
	}
	b.tells(104, on(handle, told))
	if mode == api.Level {
		b.tells(105, on(handle, told))
	} else {
		b.tells(105)
	}
	b.is(number(mode != api.Once), api.Unwatch, handle)
	b.comes(1, 7)
	b.tells(106)
}

// P16.1: unwatched, by whichever handle, a device isn't told, and waits no more; twice it is 0.
func TestUnwatch(t *testing.T) {
	for by := range uint64(2) {
		b := watched(t)
		b.is(1, api.Unwatch, h(by, 1, 15))
		s := b.x.Shot()
		if s.Devs[1] != (gate.Look{Open: true, Ready: 5}) || !slices.Equal(s.Queue, []queue.Thing{{Kind: queue.Timer, Index: 1}}) {
			t.Errorf("unwatched: %+v", s)
		}
		b.is(0, api.Unwatch, h(by, 1, 15))
		b.is(0, api.Unwatch, h(1-by, 1, 15))
		b.comes(1, api.In)
		b.tells(102, of(h(3, 1, 15), 1))
		b.tells(103)
		b.is(0, api.Watch, h(by, 1, 15), api.In, api.Edge)
		b.tells(104, on(h(by, 1, 15), api.In))
	}
}

// P16.1: cond tells all that is ready, ack what of a mask was, and that isn't ready any more.
func TestCondAndAck(t *testing.T) {
	for mask := range uint64(8) {
		for by := range uint64(2) {
			b := watched(t)
			b.is(5, api.Cond, h(by, 1, 15))
			b.is(5&mask, api.Ack, h(by, 1, 15), mask)
			b.is(5&^mask, api.Cond, h(1-by, 1, 15))
			b.is(0, api.Ack, h(by, 1, 15), mask)
			b.comes(1, api.Out)
			b.is(5&^mask, api.Cond, h(by, 1, 15))
			b.tells(102, of(h(3, 1, 15), 1))
			b.is(5&^mask|2, api.Cond, h(by, 1, 15))
		}
	}
	b := watched(t)
	for _, mask := range []uint64{8, 9, 15, 16, 255, 256, 1 << 32, 1<<32 + 1, 1 << 63, 1<<63 + 5, most - 7, most} {
		b.fails(api.ErrArg, api.Ack, h(0, 1, 15), mask)
	}
	b.is(5, api.Cond, h(0, 1, 15))
}

// P16.1, P16.2: used of each thing, and of none.
func TestUsed(t *testing.T) {
	b := full(t)
	for what, n := range []uint64{8, 3, 3, 1, 2} {
		b.is(n, api.Used, uint64(what))
	}
	for _, what := range []uint64{5, 6, 12, 64, 256, 1 << 32, 1<<32 + 1, 1 << 63, most} {
		b.fails(api.ErrArg, api.Used, what)
	}
	empty := newBench(t, size{q: api.Quota{Handles: 1, Inbox: 1}, gens: 1, budget: 1})
	for what := range uint64(5) {
		empty.is(0, api.Used, what)
	}
	empty.fails(api.ErrArg, api.Used, 5)
}

// P16.1: now is the time, be it the same, or later.
func TestNow(t *testing.T) {
	b := newBench(t, size{q: api.Quota{Handles: 1, Inbox: 1}, gens: 1, budget: 1})
	for _, now := range []uint64{0, 0, 1, 100, 100, 1 << 32, 1 << 63, most - 1, most, most} {
		b.now = now
		b.is(now, api.Now)
	}
}
