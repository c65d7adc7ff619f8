package svc_test

import (
	"slices"
	"testing"

	"nightjar/api"
)

// thing is a timer or a device, as its tenant's trace alone shows it.
type thing struct {
	kind       int
	armed      bool
	at, period uint64
	turn       int
	watched    bool
	by         uint64 // the handle by which it is armed, or watched
	want, mode uint64
}

// law goes through a tenant's entries and its trace, and holds them against the document's promises, apart from what the
// layers do.
type law struct {
	t     *testing.T
	c     api.Cfg
	who   int
	now   uint64
	items []api.Item // those that are left
	out   map[uint64]*thing
	given map[uint64]bool
	turns int
	last  thing    // of the last alarm
	begun []uint64 // when those of the tenant's slots began that are over
}

// check is the law, over a whole script.
func check(t *testing.T, c api.Cfg, who int, list []api.Entry, trace []api.Item) {
	t.Helper()
	l := &law{t: t, c: c, who: who, now: c.First, items: trace, out: map[uint64]*thing{}, given: map[uint64]bool{}}
	ticks := ticksOf(c)
	for _, e := range list {
		switch {
		case !mayBe(e) || e.Kind != 0 && e.Who != who:
		case e.Kind == 0:
			for range e.N {
				l.tick(ticks)
			}
		case e.Kind == 1:
			l.answered(e.Call)
		}
	}
	if len(l.items) > 0 {
		t.Fatalf("to %d there are left %v", who, l.items)
	}
}

func (l *law) fail(why string, what any) {
	l.t.Helper()
	l.t.Fatalf("of %v, of %d, at %d: %s: %v", l.c, l.who, l.now, why, what)
}

func (l *law) next() api.Item {
	l.t.Helper()
	if len(l.items) == 0 {
		l.fail("there is no item", nil)
	}
	i := l.items[0]
	l.items = l.items[1:]
	return i
}

// answered holds an answer against P4: the handles that are out are those that were given, and not revoked.
func (l *law) answered(c api.Call) {
	l.t.Helper()
	i := l.next()
	if i.Kind != 0 || i.Op != c.Op || i.Stamp != l.now || i.Handle != 0 || i.Code != 0 && i.Val != 0 {
		l.fail("that is no answer", i)
	}
	x := l.out[c.A]
	if c.Op >= api.Dup && c.Op <= api.Ack && (x == nil) != (i.Code == api.ErrBadHandle) {
		l.fail("a handle that isn't out is none", i)
	}
	if i.Code == api.OK {
		l.turned(c, i, x)
	}
	l.bounds()
}

// turned does what a call turns.
func (l *law) turned(c api.Call, i api.Item, x *thing) {
	l.t.Helper()
	switch c.Op {
	case api.Open, api.Timer, api.Dup:
		if l.given[i.Val] {
			l.fail("that was given before", i)
		}
		if c.Op != api.Dup {
			x = &thing{kind: 2 - c.Op}
		}
		l.given[i.Val], l.out[i.Val] = true, x
	case api.Drop:
		delete(l.out, c.A)
		if x.by == c.A {
			*x = thing{kind: x.kind}
		}
	case api.Arm:
		l.turns++
		*x = thing{kind: 1, armed: true, at: l.now + c.B, period: c.C, turn: l.turns, by: c.A}
	case api.Stop, api.Unwatch:
		*x = thing{kind: x.kind}
	case api.Watch:
		*x = thing{kind: 2, watched: true, want: c.B, mode: c.C, by: c.A}
	}
}

// bounds holds that nothing is above its bound.
func (l *law) bounds() {
	l.t.Helper()
	q := l.c.Tenants[l.who]
	things := map[*thing]bool{}
	count := [3]int{}
	for _, x := range l.out {
		if !things[x] {
			things[x] = true
			count[x.kind]++
		}
	}
	if len(l.out) > q.Handles || count[1] > q.Timers || count[2] > q.Devs {
		l.fail("that is above the bounds", count)
	}
}

func (l *law) tick(ticks []plainTick) {
	l.t.Helper()
	if l.now == most {
		return
	}
	l.now++
	tick := ticks[(l.now-1)%uint64(len(ticks))]
	if tick.who != l.who || !tick.last {
		return
	}
	// The service may begin amidst a slot; that one began ahead of everything.
	l.begun = append(l.begun, l.now-min(uint64(tick.length), l.now))
	told := 0
	for len(l.items) > 0 && l.items[0].Kind != 0 && l.items[0].Stamp == l.now {
		if told++; told > l.c.Budget {
			l.fail("that is above the budget", told)
		}
		l.told(l.next())
	}
	l.late()
}

// told holds an event against P4 and P5: it names a handle that is out, comes not ahead of its time, and in order.
func (l *law) told(i api.Item) {
	l.t.Helper()
	x := l.out[i.Handle]
	if x == nil || x.by != i.Handle || i.Op != 0 || i.Code != 0 {
		l.fail("nothing is told by that", i)
	}
	if i.Kind == api.Signal {
		if !x.watched || i.Val == 0 || i.Val&^x.want != 0 {
			l.fail("that isn't watched", i)
		}
		if x.mode == api.Once {
			*x = thing{kind: 2}
		}
		return
	}
	if !x.armed || x.at > l.now {
		l.fail("that isn't due", i)
	}
	if x.at < l.last.at || x.at == l.last.at && x.turn < l.last.turn {
		l.fail("that comes behind another one", i)
	}
	l.last = *x
	l.again(x, i)
}

// again arms a timer for the first time behind now that is whole periods on; if there is none the timer is idle, and the
// alarm tells 1.
func (l *law) again(x *thing, i api.Item) {
	l.t.Helper()
	periods, more := uint64(1), false
	if x.period > 0 {
		n := (l.now-x.at)/x.period + 1
		if more = n <= (most-x.at)/x.period; more {
			periods = n
		}
	}
	if i.Val != periods {
		l.fail("that isn't how many periods are over", i)
	}
	if !more {
		*x = thing{kind: 1}
		return
	}
	l.turns++
	x.at += periods * x.period
	x.turn = l.turns
}

// late holds that what is armed isn't late: P5's k-th slot isn't over.
func (l *law) late() {
	l.t.Helper()
	q := l.c.Tenants[l.who]
	k := (q.Timers + q.Inbox + l.c.Budget - 1) / l.c.Budget
	for _, x := range l.out {
		if !x.armed {
			continue
		}
		over := 0
		for _, begun := range slices.Backward(l.begun) {
			if begun < x.at {
				break
			}
			over++
		}
		if over >= k {
			l.fail("that is late", *x)
		}
	}
}

// P4, P5: of mixed scripts.
func TestLaw(t *testing.T) {
	for k, c := range layouts() {
		for seed := range 8 {
			list := script(c, 1200+20*k+seed, 600)
			s := made(t, c)
			doAll(s, list)
			for who := range c.Tenants {
				check(t, c, who, list, s.Trace(who))
			}
		}
	}
}

// P5: of tenants that have as much to be told as there may be, all the time: all timers come again and again, and all
// devices that there are tell what is ready, as long as it is.
func TestLawOfTheFull(t *testing.T) {
	for _, c := range []api.Cfg{single(), pair(0), triple(), eight()} {
		for budget := 1; budget <= 5; budget++ {
			c.Budget = budget
			for who := range c.Tenants {
				c.Tenants[who].Handles = c.Tenants[who].Timers + c.Tenants[who].Devs
			}
			list := full(c)
			s := made(t, c)
			doAll(s, list)
			for who := range c.Tenants {
				check(t, c, who, list, s.Trace(who))
			}
		}
	}
}

// full is a script in which all have all that they may, and are told of it.
func full(c api.Cfg) []api.Entry {
	var list []api.Entry
	for who, q := range c.Tenants {
		for k := range uint64(q.Devs) {
			list = append(list, ask(who, api.Open, k), ask(who, api.Watch, h(k, 1, 15), 7, 0), comes(who, int(k), 1))
		}
		for k := range uint64(q.Timers) {
			x := h(uint64(q.Devs)+k, 1, 15)
			list = append(list, ask(who, api.Timer), ask(who, api.Arm, x, k%5, 1+k%7))
		}
	}
	for _, x := range steps(5, 150) {
		d := dice(x >> 3)
		who := d.below(len(c.Tenants))
		q := c.Tenants[who]
		list = append(list, tick(1+d.below(20)), comes(who, d.below(q.Devs+1), 1+d.below(7)))
		if q.Timers > 0 {
			list = append(list, ask(who, api.Arm, h(uint64(q.Devs+d.below(q.Timers)), 1, 15), uint64(d.below(9)), uint64(d.below(3))))
		}
	}
	return list
}
