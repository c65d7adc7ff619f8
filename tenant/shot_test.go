package tenant_test

import (
	"slices"
	"testing"

	"nightjar/alarm"
	"nightjar/api"
	"nightjar/gate"
	"nightjar/poll"
	"nightjar/queue"
	"nightjar/tenant"
)

// whole is a shot with two of everything.
func whole() tenant.Shot {
	return tenant.Shot{
		Handles: []uint64{h(0, 1, 15), h(1, 2, 3)},
		Dead:    1,
		Timers:  []alarm.Row{{}, {State: 1, Handle: 2, At: 3, Period: 4}},
		Devs:    []gate.Look{{}, {Open: true, Ready: 1, Late: 2, Handle: 3, Want: 4, Mode: 1, Told: 2}},
		Notes:   []poll.Note{{Dev: 1, Mask: 2}, {Dev: 3, Mask: 4}},
		Queue:   []queue.Thing{{Kind: 1, Index: 1}, {Kind: 2, Index: 1}},
	}
}

// changes are all ways in which one member of whole is unlike.
func changes() []func(*tenant.Shot) {
	return []func(*tenant.Shot){
		func(s *tenant.Shot) { s.Handles[0]++ },
		func(s *tenant.Shot) { s.Handles[1] ^= 1 << 63 },
		func(s *tenant.Shot) { s.Handles = s.Handles[:1] },
		func(s *tenant.Shot) { s.Handles = nil },
		func(s *tenant.Shot) { s.Handles = append(s.Handles, 0) },
		func(s *tenant.Shot) { slices.Reverse(s.Handles) },
		func(s *tenant.Shot) { s.Dead = 0 },
		func(s *tenant.Shot) { s.Dead = 2 },
		func(s *tenant.Shot) { s.Dead = -1 },
		func(s *tenant.Shot) { s.Timers[0].State = 1 },
		func(s *tenant.Shot) { s.Timers[1].State = 2 },
		func(s *tenant.Shot) { s.Timers[1].Handle++ },
		func(s *tenant.Shot) { s.Timers[1].At++ },
		func(s *tenant.Shot) { s.Timers[1].Period++ },
		func(s *tenant.Shot) { s.Timers = s.Timers[1:] },
		func(s *tenant.Shot) { s.Timers = nil },
		func(s *tenant.Shot) { s.Timers = append(s.Timers, alarm.Row{}) },
		func(s *tenant.Shot) { slices.Reverse(s.Timers) },
		func(s *tenant.Shot) { s.Devs[0].Open = true },
		func(s *tenant.Shot) { s.Devs[1].Open = false },
		func(s *tenant.Shot) { s.Devs[1].Ready++ },
		func(s *tenant.Shot) { s.Devs[1].Late++ },
		func(s *tenant.Shot) { s.Devs[1].Handle++ },
		func(s *tenant.Shot) { s.Devs[1].Want++ },
		func(s *tenant.Shot) { s.Devs[1].Mode++ },
		func(s *tenant.Shot) { s.Devs[1].Told++ },
		func(s *tenant.Shot) { s.Devs = s.Devs[1:] },
		func(s *tenant.Shot) { s.Devs = nil },
		func(s *tenant.Shot) { s.Devs = append(s.Devs, gate.Look{}) },
		func(s *tenant.Shot) { slices.Reverse(s.Devs) },
		func(s *tenant.Shot) { s.Notes[0].Dev++ },
		func(s *tenant.Shot) { s.Notes[1].Mask++ },
		func(s *tenant.Shot) { s.Notes = s.Notes[:1] },
		func(s *tenant.Shot) { s.Notes = nil },
		func(s *tenant.Shot) { s.Notes = append(s.Notes, poll.Note{}) },
		func(s *tenant.Shot) { slices.Reverse(s.Notes) },
		func(s *tenant.Shot) { s.Queue[0].Kind++ },
		func(s *tenant.Shot) { s.Queue[1].Index++ },
		func(s *tenant.Shot) { s.Queue = s.Queue[:1] },
		func(s *tenant.Shot) { s.Queue = nil },
		func(s *tenant.Shot) { s.Queue = append(s.Queue, queue.Thing{}) },
		func(s *tenant.Shot) { slices.Reverse(s.Queue) },
	}
}

// P16.1: two shots are the same if all members are, and each of them counts.
func TestSame(t *testing.T) {
	if s := whole(); !s.Same(whole()) || !s.Same(s) {
		t.Error("two are alike, and not the same")
	}
	for k, change := range changes() {
		s := whole()
		change(&s)
		if o := whole(); s.Same(o) || o.Same(s) {
			t.Errorf("change %d: the same", k)
		}
		o := whole()
		change(&o)
		if !s.Same(o) {
			t.Errorf("change %d: two are alike, and not the same", k)
		}
		if (tenant.Shot{}).Same(s) || s.Same(tenant.Shot{}) {
			t.Errorf("change %d: as if there were nothing", k)
		}
	}
}

// P16.1: a list that is nil and one that is empty are the same, and so is one with room to spare.
func TestSameOfNothing(t *testing.T) {
	empty := tenant.Shot{Handles: []uint64{}, Timers: []alarm.Row{}, Devs: []gate.Look{}, Notes: []poll.Note{}, Queue: []queue.Thing{}}
	if !empty.Same(tenant.Shot{}) || !(tenant.Shot{}).Same(empty) || !empty.Same(empty) || !(tenant.Shot{}).Same(tenant.Shot{}) {
		t.Error("nothing isn't nothing")
	}
	s := whole()
	s.Handles = append(make([]uint64, 0, 99), s.Handles...)
	s.Queue = append(make([]queue.Thing, 0, 99), s.Queue...)
	if !s.Same(whole()) || !whole().Same(s) {
		t.Error("room makes a difference")
	}
}

// P16.1: of two tenants, played alike up to a last call, just the member is unlike that this one changes.
func TestShotsOfTwo(t *testing.T) {
	for _, c := range []struct {
		what string
		last func(b *bench)
		mend func(s *tenant.Shot, o tenant.Shot)
	}{
		{"handles", func(b *bench) { b.quick(api.Dup, h(6, 1, 12), 0) }, func(s *tenant.Shot, o tenant.Shot) { s.Handles = o.Handles }},
		{"dead", func(b *bench) {
			for range 2 {
				b.quick(api.Drop, b.quick(api.Dup, h(6, 1, 12), 4))
			}
		}, func(s *tenant.Shot, o tenant.Shot) { s.Dead = o.Dead }},
		{"timers", func(b *bench) { b.quick(api.Stop, h(0, 1, 15)) }, func(s *tenant.Shot, o tenant.Shot) { s.Timers = o.Timers }},
		{"devices", func(b *bench) { b.quick(api.Ack, h(2, 1, 15), 1) }, func(s *tenant.Shot, o tenant.Shot) { s.Devs = o.Devs }},
		{"kept", func(b *bench) { b.ready(1, 1) }, func(s *tenant.Shot, o tenant.Shot) { s.Devs = o.Devs }},
	} {
		x, y := full(t), full(t)
		for _, b := range []*bench{x, y} {
			b.quick(api.Drop, h(8, 1, 15))
			b.same()
		}
		if !x.x.Shot().Same(y.x.Shot()) {
			t.Fatalf("%s: played alike, and unlike", c.what)
		}
		c.last(x)
		x.same()
		s, o := x.x.Shot(), y.x.Shot()
		if s.Same(o) || o.Same(s) {
			t.Errorf("%s: unlike, and the same", c.what)
		}
		c.mend(&s, o)
		if !s.Same(o) {
			t.Errorf("%s: %+v; %+v", c.what, s, o)
		}
	}
}

// P16.1: likewise the notes, and the order of the queue.
func TestNotesAndQueuesOfTwo(t *testing.T) {
	x, y := clocks(t, 3, 1, 1, 1), clocks(t, 3, 1, 1, 1)
	x.comes(0, api.In)
	s, o := x.x.Shot(), y.x.Shot()
	if s.Same(o) || len(s.Notes) != 1 || len(o.Notes) != 0 {
		t.Errorf("%+v; %+v", s, o)
	}
	s.Notes = nil
	if !s.Same(o) {
		t.Errorf("%+v; %+v", s, o)
	}
	y.comes(0, api.In)
	for _, b := range []*bench{x, y} {
		b.is(0, api.Arm, h(2, 1, 15), 0)
	}
	for k := range uint64(2) {
		x.is(0, api.Arm, h(k, 1, 15), 0)
		y.is(0, api.Arm, h(1-k, 1, 15), 0)
	}
	if !x.x.Shot().Same(y.x.Shot()) {
		t.Error("the order in which timers were set is to be seen")
	}
	x.tells(100, of(h(2, 1, 15), 1))
	y.tells(100, of(h(2, 1, 15), 1))
	s, o = x.x.Shot(), y.x.Shot()
	if s.Same(o) {
		t.Errorf("%+v; %+v", s, o)
	}
	slices.Reverse(s.Queue)
	if !s.Same(o) {
		t.Errorf("%+v; %+v", s, o)
	}
}

// P16.1: what is to be seen at first: no handle, no timer, and all devices, none of them open.
func TestShotAtFirst(t *testing.T) {
	for devs := range 5 {
		x := newTenant(size{q: api.Quota{Handles: 3, Timers: 4, Devs: devs, Inbox: 2}, gens: 1, budget: 1, now: 100})
		if s := x.Shot(); !alike(s, tenant.Shot{Devs: make([]gate.Look, devs)}) {
			t.Errorf("%+v", s)
		}
	}
}

// P16.1: all of the most that there may be is to be seen.
func TestShotOfTheMost(t *testing.T) {
	b := newBench(t, size{q: api.Quota{Handles: 256, Timers: 256, Devs: 64, Inbox: 64}, gens: 1, budget: 16, now: 100})
	for dev := range uint64(64) {
		b.quick(api.Open, dev)
		b.quick(api.Watch, h(dev, 1, 15), 7, api.Edge)
		b.ready(int(dev), 1+int(dev)%7)
	}
	for k := range uint64(192) {
		b.quick(api.Timer)
		b.quick(api.Arm, h(64+k, 1, 15), 192-k, k)
	}
	b.same()
	for end := uint64(150); end < 350; end += 10 {
		b.slot(end)
		b.same()
	}
}

// scribble writes over a list, and its spare room.
func scribble[T any](list []T, v T) {
	list = list[:cap(list)]
	for k := range list {
		list[k] = v
	}
}

// P16.1: what is answered is new memory, spare room too: whatever is done with it turns nothing, nor other answers.
func TestAnswersAreNew(t *testing.T) {
	b := full(t)
	first, second := b.x.Shot(), b.x.Shot()
	scribble(first.Handles, 9)
	scribble(first.Timers, alarm.Row{State: 1, Handle: 9})
	scribble(first.Devs, gate.Look{Open: true, Ready: 7})
	scribble(first.Notes, poll.Note{Dev: 2, Mask: 7})
	scribble(first.Queue, queue.Thing{Kind: 2, Index: 3})
	if !alike(second, b.m.shot()) {
		t.Errorf("two shots share their lists: %+v", second)
	}
	b.same()
	for end := uint64(150); end < 170; end++ {
		told := b.slot(end)
		kept := slices.Clone(told)
		b.ready(3, 1)
		next := b.slot(end)
		if !slices.Equal(told, kept) {
			t.Fatalf("what was told at %d is %v; was %v", end, told, kept)
		}
		scribble(told, api.Item{Kind: 9, Handle: 9})
		scribble(next, api.Item{Kind: 9, Handle: 9})
		b.same()
	}
	earlier := b.x.Shot()
	was := b.m.shot()
	b.quick(api.Drop, h(5, 1, 5))
	b.quick(api.Drop, h(3, 1, 15))
	b.ready(1, 7)
	b.slot(300)
	if !alike(earlier, was) {
		t.Errorf("a shot changed: %+v; was %+v", earlier, was)
	}
}
