package svc_test

import (
	"math"
	"slices"
	"testing"

	"nightjar/api"
	"nightjar/svc"
	"nightjar/tenant"
)

// P17.2, P1: of whoever is no tenant there is no trace, and nothing to be seen.
func TestNobody(t *testing.T) {
	for _, c := range layouts() {
		b := busyOrNot(t, c)
		b.do(tick(40))
		n := len(c.Tenants)
		for _, who := range []int{math.MinInt, -1 << 32, -n, -1, n, n + 1, 8, 255, 256, 1 << 32, math.MaxInt} {
			if who == 8 && n > 8 {
				continue
			}
			if got := b.s.Trace(who); len(got) != 0 {
				t.Errorf("of %d tenants Trace(%d) = %v", n, who, got)
			}
			if got := b.s.Shot(who); !alikeShots(got, tenant.Shot{}) {
				t.Errorf("of %d tenants Shot(%d) = %v", n, who, got)
			}
		}
		b.same()
	}
}

// P17.1: what a slot tells goes to its owner's trace, behind what stands there, in order, and to no other's.
func TestOwner(t *testing.T) {
	c := eight()
	for who, q := range c.Tenants {
		b := newBench(t, c)
		for k := range q.Timers {
			b.do(ask(who, api.Timer))
			b.do(ask(who, api.Arm, h(uint64(k), 1, 15), uint64(q.Timers-k)))
		}
		b.do(ask(who, api.Open))
		b.do(ask(who, api.Watch, h(uint64(q.Timers), 1, 15), 4, 2))
		b.do(comes(who, 0, 6))
		asked := b.s.Trace(who)
		for range 12 {
			b.do(tick(100))
		}
		b.same()
		told := b.s.Trace(who)
		if !slices.Equal(told[:len(asked)], asked) {
			t.Fatalf("the trace of %d begins with %v; was %v", who, told[:len(asked)], asked)
		}
		signals := 0
		for k, i := range told[len(asked):] {
			if i.Kind == 2 {
				signals++
			} else if want := h(uint64(q.Timers-1-(k-signals)), 1, 15); i.Handle != want {
				t.Errorf("to %d the alarm %d is of %d; want %d", who, k, i.Handle, want)
			}
		}
		if len(told)-len(asked) != q.Timers+1 || signals != 1 {
			t.Errorf("to %d is told %v", who, told[len(asked):])
		}
		for other := range c.Tenants {
			if other != who && len(b.s.Trace(other)) != 0 {
				t.Errorf("to %d is told %v, of %d", other, b.s.Trace(other), who)
			}
		}
	}
}

// spoil writes over all that is handed out, the memory behind it too.
func spoil(s *svc.Service) {
	for who := range s.Tenants() {
		trace := s.Trace(who)
		trace = trace[:cap(trace)]
		for k := range trace {
			trace[k] = api.Item{Kind: 9, Op: 9, Code: 9, Handle: 9, Val: 9, Stamp: 9}
		}
		shot := s.Shot(who)
		clear(shot.Handles[:cap(shot.Handles)])
		clear(shot.Timers[:cap(shot.Timers)])
		clear(shot.Devs[:cap(shot.Devs)])
		clear(shot.Notes[:cap(shot.Notes)])
		clear(shot.Queue[:cap(shot.Queue)])
	}
}

// P17.1, rules: what is handed out of a trace, or is to be seen of a tenant, is new memory: whoever writes to it turns
// nothing, and what goes on behind it doesn't turn it.
func TestCopies(t *testing.T) {
	for k, c := range layouts() {
		b := busyOrNot(t, c)
		for _, e := range script(c, k, 120) {
			was, kept := look(b.s), look(b.s)
			for who := range c.Tenants {
				was.traces[who] = slices.Clone(was.traces[who])
			}
			b.do(e)
			if !sameTraces(was.traces, kept.traces) {
				t.Fatalf("Do(%v) writes to what was handed out: %v; was %v", e, kept, was)
			}
			spoil(b.s)
			b.same()
		}
	}
}

// Rules: a trace that was handed out can be added to, and the trace goes on as it would.
func TestAppended(t *testing.T) {
	b := busy(t, pair(0))
	for range 50 {
		for who := range 2 {
			list := append(b.s.Trace(who), answer(api.Now, 1, 2))
			b.do(ask(who, api.Now))
			if last := list[len(list)-1]; last != answer(api.Now, 1, 2) {
				t.Fatalf("what was added to a trace is %v", last)
			}
		}
		b.all(tick(1))
	}
}

// Rules: no two answers share memory.
func TestAnswersApart(t *testing.T) {
	b := busy(t, pair(0))
	one, other := b.s.Trace(0), b.s.Trace(0)
	clear(one[:cap(one)])
	if !slices.Equal(other, b.m.traces[0]) {
		t.Errorf("the other trace is %v; want %v", other, b.m.traces[0])
	}
}
