package tenant_test

import (
	"fmt"
	"slices"
	"testing"

	"nightjar/alarm"
	"nightjar/api"
	"nightjar/caps"
	"nightjar/slab"
	"nightjar/tenant"
)

// afterwards goes on, so that what was turned, and isn't to be seen, is seen.
func (b *bench) afterwards() {
	b.t.Helper()
	b.slot(160)
	b.quick(api.Drop, h(6, 1, 12))
	b.quick(api.Timer)
	b.quick(api.Open)
	b.ready(0, 1)
	b.quick(api.Drop, h(4, 1, 15))
	b.quick(api.Timer)
	b.quick(api.Open)
	for end := uint64(170); end < 173; end++ {
		b.slot(end)
	}
	b.same()
}

// P16.1, P16.2, P1: every call, of right and wrong numbers, of a tenant that has something of everything, and how that
// goes on then.
func TestEveryCall(t *testing.T) {
	handles := []uint64{h(7, 1, 15), h(7, 2, 15), h(0, 1, 7), h(0, 2, 15), h(9, 1, 15), 0, 1, 2, 3, 4, 5, 6, most}
	handles = append(handles, full(t).x.Shot().Handles...)
	second := []uint64{0, 1, 4, 7, 8, 12, 15, 16, 1 << 32, most - 110, most - 109, most}
	third := []uint64{0, 1, 2, 3, 1 << 32, most}
	args := []int{1, 0, 2, 1, 3, 1, 1, 3, 1, 1, 2, 1, 0}
	got := map[string]bool{}
	for op, count := range args {
		choices := [3][]uint64{{0, 5}, {0, 5}, {0, 5}}
		for k, list := range [][]uint64{handles, second, third}[:count] {
			choices[k] = list
		}
		for _, a := range choices[0] {
			for _, bb := range choices[1] {
				for _, c := range choices[2] {
					b := full(t)
					got[fmt.Sprint(op, b.call(asked(op, a, bb, c)).Code)] = true
					b.same()
					b.afterwards()
				}
			}
		}
	}
	for _, want := range []string{
		"0 2", "0 4", "0 8", "1 4", "2 2", "2 4", "2 5", "2 6", "3 0", "3 5", "4 0", "4 3", "4 5", "4 7", "5 0", "5 5",
		"5 6", "5 7", "6 0", "6 5", "6 7", "6 9", "7 0", "7 2", "7 5", "7 6", "7 7", "8 0", "8 5", "8 6", "8 7", "9 0",
		"9 5", "9 7", "10 0", "10 2", "10 5", "10 7", "11 0", "11 2", "12 0",
	} {
		if !got[want] {
			t.Errorf("no call was answered %s", want)
		}
	}
}

// handle is one of those that are out, the first ones for numbers from 0 on, the last ones for those below; if there is
// none it is one that was revoked.
func (b *bench) handle(kind, k int) uint64 {
	var list []uint64
	for _, p := range b.m.places {
		if p.out && p.kind == kind {
			list = append(list, p.handle)
		}
	}
	if len(list) == 0 {
		return h(0, 1, 15)
	}
	return list[(k+len(list))%len(list)]
}

// moves are chosen calls, of a tenant with two timers, two devices, and four handles.
var moves = []func(b *bench){
	func(b *bench) { b.quick(api.Timer) },
	func(b *bench) { b.quick(api.Open, 0) },
	func(b *bench) { b.quick(api.Open, 1) },
	func(b *bench) { b.quick(api.Dup, b.handle(1, 0), 15) },
	func(b *bench) { b.quick(api.Dup, b.handle(2, -1), 5) },
	func(b *bench) { b.quick(api.Drop, b.handle(1, 0)) },
	func(b *bench) { b.quick(api.Drop, b.handle(2, 0)) },
	func(b *bench) { b.quick(api.Drop, b.handle(2, -1)) },
	func(b *bench) { b.quick(api.Arm, b.handle(1, 0), 0, 3) },
	func(b *bench) { b.quick(api.Arm, b.handle(1, -1), 2) },
	func(b *bench) { b.quick(api.Stop, b.handle(1, 0)) },
	func(b *bench) { b.quick(api.Watch, b.handle(2, 0), 5, 0) },
	func(b *bench) { b.quick(api.Watch, b.handle(2, -1), 3, 2) },
	func(b *bench) { b.quick(api.Unwatch, b.handle(2, 0)) },
	func(b *bench) { b.quick(api.Ack, b.handle(2, 0), 1) },
	func(b *bench) { b.ready(0, 3) },
	func(b *bench) { b.ready(1, 1) },
	func(b *bench) { b.slot(b.now + 2) },
}

// beginnings are the moves that come ahead of every order of others.
var beginnings = [][]int{
	nil,
	{0, 0, 1, 2, 8, 9, 11, 12, 15, 16},
	{0, 3, 9, 1, 4, 12, 15, 17, 8, 17},
	{0, 0, 8, 9, 1, 2, 11, 15, 17},
	{1, 2, 4, 4, 7, 11, 12, 15, 16, 17, 15, 16},
	{0, 3, 3, 3, 5, 5, 5, 0, 3, 9, 17},
}

// P16.1, P16.2, P16.3, P4: every order of three out of eighteen chosen calls, behind six beginnings.
func TestEveryOrder(t *testing.T) {
	s := size{q: api.Quota{Handles: 4, Timers: 2, Devs: 2, Inbox: 1}, gens: 2, budget: 1, now: 100}
	for _, begin := range beginnings {
		for order := range len(moves) * len(moves) * len(moves) {
			b := newBench(t, s)
			for _, k := range begin {
				moves[k](b)
			}
			for rest := range 3 {
				if rest > 0 {
					order /= len(moves)
				}
				moves[order%len(moves)](b)
			}
			b.same()
			for range 3 {
				b.slot(b.now + 1)
			}
			b.same()
		}
	}
}

// sizes are tenants of all kinds: with little of something, with much, with none.
func sizes() []size {
	return []size{
		{q: api.Quota{Handles: 1, Timers: 1, Devs: 1, Inbox: 1}, gens: 1000, budget: 1},
		{q: api.Quota{Handles: 4, Timers: 2, Devs: 2, Inbox: 1}, gens: api.MaxGens - 1, budget: 1, now: 100},
		{q: api.Quota{Handles: 6, Timers: 0, Devs: 4, Inbox: 2}, gens: 5000, budget: 2, now: 1 << 40},
		{q: api.Quota{Handles: 6, Timers: 5, Devs: 0, Inbox: 3}, gens: 5000, budget: 2, now: 9},
		{q: api.Quota{Handles: 9, Timers: 4, Devs: 3, Inbox: 2}, gens: 10, budget: 1, now: 100},
		{q: api.Quota{Handles: 12, Timers: 4, Devs: 5, Inbox: 2}, gens: 5000, budget: 3, now: 100},
		{q: api.Quota{Handles: 40, Timers: 20, Devs: 10, Inbox: 5}, gens: 5000, budget: 4, now: 100},
		{q: api.Quota{Handles: 30, Timers: 30, Devs: 20, Inbox: 64}, gens: 5000, budget: 16, now: most - 3000},
		{q: api.Quota{Handles: 256, Timers: 256, Devs: 64, Inbox: 64}, gens: 5000, budget: 16, now: 1 << 63},
	}
}

// pick is some handle for a call: mostly one that is out, else one that isn't, or made up.
func (b *bench) pick(x uint64) uint64 {
	handle := b.handle(1+int(x%2), int(x>>8%16))
	switch x >> 4 % 12 {
	case 0:
		return handle ^ 1<<(x>>16%64)
	case 1:
		return handle - 1<<24
	case 2:
		return x % 300
	}
	return handle
}

// mixed is a call of one of all kinds, mostly one that may be.
func (b *bench) mixed(x uint64) api.Call {
	op := [...]int{0, 1, 2, 3, 4, 4, 5, 6, 7, 7, 8, 9, 10, 11, 12, 1, 0, 4}[x%18]
	x /= 18
	c := api.Call{Op: op, A: b.pick(x), B: x >> 24 % 18, C: x >> 30 % 4}
	switch op {
	case api.Open:
		c.A = x % uint64(b.m.q.Devs+1)
	case api.Drop:
		if x>>32%4 == 0 {
			c.Op = api.Dup
		}
	case api.Arm:
		c.B = []uint64{0, 1, 2, 5, 9, 30, 100, most - b.now, most, 1000}[x>>24%10]
		c.C = []uint64{0, 0, 1, 2, 7, 50, 1 << 62}[x>>30%7]
	case api.Watch, api.Ack:
		c.B %= 9
	case api.Used:
		c.A = x % 6
	}
	return c
}

// move is a call, something that comes, a step of time, or a slot.
func (b *bench) move(x uint64) {
	b.t.Helper()
	kind := x % 16
	x /= 16
	switch {
	case kind < 10:
		b.call(b.mixed(x))
	case kind < 13:
		b.ready(int(x%uint64(b.m.q.Devs+2))-1, int(x>>8%9))
	case kind < 14:
		b.now += min(x%7, most-b.now)
	default:
		b.slot(b.now + min(x%5, most-b.now))
	}
}

// P16.1, P16.2, P16.3, P4: long mixed orders, of tenants of all sizes: no handle is given twice, and none that was
// revoked is one again.
func TestMixedOrders(t *testing.T) {
	for k, s := range sizes() {
		b := newBench(t, s)
		given := map[uint64]bool{}
		for i, x := range steps(k, 6000) {
			out := b.m.shot().Handles
			b.move(x)
			if i%7 == 0 || k < 2 {
				b.same()
			}
			for _, handle := range b.x.Shot().Handles {
				if given[handle] && !slices.Contains(out, handle) {
					t.Fatalf("the handle %x is out twice", handle)
				}
				given[handle] = true
			}
		}
		b.same()
		b.revokedAreNone(given)
	}
}

// revokedAreNone holds that of all handles that were given just those are one that are out.
func (b *bench) revokedAreNone(given map[uint64]bool) {
	b.t.Helper()
	out := b.x.Shot().Handles
	for handle := range given {
		got := b.x.Call(asked(api.Ack, handle, 8), b.now).Code
		if (got == api.ErrBadHandle) == slices.Contains(out, handle) {
			b.t.Fatalf("%x is answered %d; there are out %v", handle, got, out)
		}
	}
	if len(given) < 50 {
		b.t.Fatalf("of %d places there were %d handles", b.m.q.Handles, len(given))
	}
}

// P2: what was done twice the same way is answered, and told, and to be seen, the same way.
func TestAgain(t *testing.T) {
	for k, s := range sizes() {
		a, b := newBench(t, s), newBench(t, s)
		for i, x := range steps(40+k, 500) {
			a.move(x)
			b.move(x)
			if i%10 == 0 && !a.x.Shot().Same(b.x.Shot()) {
				t.Fatalf("%+v; %+v", a.x.Shot(), b.x.Shot())
			}
		}
	}
}

// together are tenants over the regions of one slab of handles, and one of timers.
func together(t *testing.T, all []size) []*bench {
	var handles, timers []int
	for _, s := range all {
		handles = append(handles, s.q.Handles)
		timers = append(timers, s.q.Timers)
	}
	rows, alarms := slab.New[caps.Row](handles), slab.New[alarm.Row](timers)
	var list []*bench
	for k, s := range all {
		b := newBench(t, s)
		b.x = tenant.New(s.q, s.gens, s.budget, s.now, rows.Region(k), alarms.Region(k))
		list = append(list, b)
	}
	return list
}

// P16.1, P3, P4: tenants over the regions of one slab have nothing to do with one another: each is answered, and told,
// as if it were alone.
func TestApart(t *testing.T) {
	list := together(t, sizes())
	for i, x := range steps(90, 20000) {
		b := list[x%uint64(len(list))]
		b.move(x / uint64(len(list)))
		if i%50 == 0 {
			for _, o := range list {
				o.same()
			}
		}
	}
}

// P3, P4: of two tenants one has used up all that it may have; the other one has all of its own, and the handles of the
// first one are none of it.
func TestApartInBounds(t *testing.T) {
	s := size{q: api.Quota{Handles: 3, Timers: 2, Devs: 1, Inbox: 1}, gens: 1, budget: 1, now: 100}
	list := together(t, []size{s, s, s})
	x, y := list[1], list[2]
	x.is(h(0, 1, 15), api.Timer)
	x.is(h(1, 1, 15), api.Timer)
	x.is(h(2, 1, 15), api.Open)
	x.is(0, api.Arm, h(0, 1, 15), 1)
	x.is(0, api.Watch, h(2, 1, 15), 7)
	x.comes(0, 7)
	for _, o := range []*bench{list[0], y} {
		if s := o.x.Shot(); len(s.Handles) != 0 || len(s.Timers) != 0 || s.Devs[0].Open {
			t.Errorf("%+v", s)
		}
		for slot := range uint64(3) {
			o.fails(api.ErrBadHandle, api.Drop, h(slot, 1, 15))
			o.fails(api.ErrBadHandle, api.When, h(slot, 1, 15))
			o.fails(api.ErrBadHandle, api.Cond, h(slot, 1, 15))
		}
		if o.ready(0, 1) {
			t.Error("something came of a device that isn't open")
		}
		o.tells(200)
	}
	y.is(h(0, 1, 15), api.Open)
	y.is(h(1, 1, 15), api.Timer)
	y.fails(api.ErrKind, api.When, h(0, 1, 15))
	x.is(101, api.When, h(0, 1, 15))
	y.is(0, api.Drop, h(0, 1, 15))
	x.tells(200, of(h(0, 1, 15), 1))
	x.tells(201, on(h(2, 1, 15), 7))
	if s := x.x.Shot(); s.Dead != 0 || len(s.Handles) != 3 {
		t.Errorf("%+v", s)
	}
}

// begun is when a slot began, that is over.
type begun []uint64

// count is how many of them began at a time, or later.
func (list begun) count(at uint64) uint64 {
	n := uint64(0)
	for _, began := range list {
		n += number(began >= at)
	}
	return n
}

// P5: an alarm doesn't come ahead of its time, and no later than the k-th slot that begins at its time, or later.
func TestAlarmsInTime(t *testing.T) {
	for k, s := range sizes() {
		if s.now > 1<<63 {
			continue
		}
		b := newBench(t, s)
		bound := (uint64(s.q.Timers+s.q.Inbox) + uint64(s.budget) - 1) / uint64(s.budget)
		var over begun
		lastAt := uint64(0)
		for i, x := range steps(60+k, 4000) {
			if i%9 != 8 {
				b.call(b.mixed(x))
				b.ready(int(x%uint64(b.m.q.Devs+1)), int(x>>8%8))
				continue
			}
			// The slot begins here, some is asked in it, and it ends.
			b.now += x % 3
			began := b.now
			b.call(b.mixed(x / 3))
			before := b.x.Shot()
			for _, item := range b.slot(b.now + x>>8%4) {
				at, ok := atOf(before, item)
				if ok && (at > b.now || at < lastAt || over.count(at) >= bound) {
					t.Fatalf("told at %d, for %d, behind %d slots, behind one for %d", b.now, at, over.count(at), lastAt)
				}
				if ok {
					lastAt = at
				}
			}
			over = append(over, began)
			for _, row := range b.x.Shot().Timers {
				if row.State != alarm.Idle && over.count(row.At) >= bound {
					t.Fatalf("at %d it isn't told yet: %v", b.now, row)
				}
			}
		}
	}
}

// atOf is for when the timer was set that an alarm is of.
func atOf(s tenant.Shot, item api.Item) (uint64, bool) {
	for _, row := range s.Timers {
		if item.Kind == api.Alarm && row.State != alarm.Idle && row.Handle == item.Handle {
			return row.At, true
		}
	}
	return 0, false
}
