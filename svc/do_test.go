package svc_test

import (
	"math"
	"slices"
	"testing"

	"nightjar/api"
)

// answer is an item without an error; refused one with.
func answer(op int, val, stamp uint64) api.Item {
	return api.Item{Kind: 0, Op: op, Val: val, Stamp: stamp}
}

func refused(op int, err api.Errno, stamp uint64) api.Item {
	return api.Item{Kind: 0, Op: op, Code: err, Stamp: stamp}
}

func alarmOf(handle, val, stamp uint64) api.Item {
	return api.Item{Kind: 1, Handle: handle, Val: val, Stamp: stamp}
}

func signalOf(handle, val, stamp uint64) api.Item {
	return api.Item{Kind: 2, Handle: handle, Val: val, Stamp: stamp}
}

// wantTrace holds a tenant's trace against items.
func (b *bench) wantTrace(who int, want ...api.Item) {
	b.t.Helper()
	if got := b.s.Trace(who); !slices.Equal(got, want) {
		b.t.Fatalf("behind %v: the trace of %d is %v; want %v", b.done, who, got, want)
	}
}

// P17.1: the chapter's own example: armed at 0 for 3, a timer is told at 7.
func TestExample(t *testing.T) {
	b := newBench(t, pair(0))
	b.all(ask(0, api.Timer), ask(0, api.Arm, h(0, 1, 15), 3), tick(6))
	b.wantTrace(0, answer(api.Timer, h(0, 1, 15), 0), answer(api.Arm, 0, 0))
	b.all(tick(1))
	b.wantTrace(0, answer(api.Timer, h(0, 1, 15), 0), answer(api.Arm, 0, 0), alarmOf(h(0, 1, 15), 1, 7))
	b.wantTrace(1)
}

// P17.1: the document's ninth example: with a budget of 1, two timers that are due at one slot are told at two.
func TestTwoAtOnce(t *testing.T) {
	b := newBench(t, pair(0))
	x, y := h(0, 1, 15), h(1, 1, 15)
	b.all(ask(1, api.Timer), ask(1, api.Timer), ask(1, api.Arm, y, 2), ask(1, api.Arm, x, 3), tick(20))
	got := b.s.Trace(1)[4:]
	if want := []api.Item{alarmOf(y, 1, 5), alarmOf(x, 1, 10)}; !slices.Equal(got, want) {
		t.Errorf("told %v; want %v", got, want)
	}
}

// P17.1: what each kind of call is answered, with and without an error, stands in the trace of the one who asked, at the
// time, and in no other.
func TestAsk(t *testing.T) {
	x, y, z := h(0, 1, 15), h(1, 1, 15), h(2, 1, 8)
	for who := range 2 {
		b := newBench(t, pair(100))
		var want []api.Item
		asks := func(val uint64, op int, nums ...uint64) {
			b.do(ask(who, op, nums...))
			want = append(want, answer(op, val, b.s.Now()))
		}
		fails := func(err api.Errno, op int, nums ...uint64) {
			b.do(ask(who, op, nums...))
			want = append(want, refused(op, err, b.s.Now()))
		}
		asks(x, api.Open, 1)
		fails(api.ErrBusy, api.Open, 1)
		fails(api.ErrArg, api.Open, 2)
		b.do(tick(1))
		asks(y, api.Timer)
		asks(101, api.Now)
		asks(z, api.Dup, y, 8)
		fails(api.ErrBadHandle, api.Dup, h(3, 1, 15), 8)
		fails(api.ErrArg, api.Dup, y, 16)
		fails(api.ErrRights, api.Dup, z, 15)
		fails(api.ErrQuota, api.Dup, y, 15)
		fails(api.ErrQuota, api.Timer)
		b.do(tick(2))
		fails(api.ErrOff, api.When, y)
		asks(0, api.Arm, y, 1000, 7)
		asks(1, api.Arm, y, 2000)
		fails(api.ErrRange, api.Arm, y, most-102)
		fails(api.ErrRights, api.Arm, z, 1)
		fails(api.ErrKind, api.Arm, x, 1)
		asks(2103, api.When, y)
		asks(1, api.Stop, y)
		asks(0, api.Stop, y)
		fails(api.ErrBadHandle, api.Stop)
		fails(api.ErrArg, api.Watch, x, 8)
		asks(0, api.Watch, x, 3, 1)
		fails(api.ErrKind, api.Watch, y, 3)
		asks(1, api.Unwatch, x)
		asks(0, api.Unwatch, x)
		fails(api.ErrBadHandle, api.Unwatch, 7)
		b.do(comes(who, 1, 5))
		asks(1, api.Used, 3)
		fails(api.ErrArg, api.Used, 5)
		b.do(tick(7))
		asks(5, api.Cond, x)
		fails(api.ErrKind, api.Cond, z)
		fails(api.ErrArg, api.Ack, x, 8)
		asks(4, api.Ack, x, 6)
		asks(1, api.Drop, z)
		fails(api.ErrBadHandle, api.Drop, z)
		asks(110, api.Now)
		b.same()
		b.wantTrace(who, want...)
		b.wantTrace(1 - who)
	}
}

// P17.1: on which devices something comes: of those that there are, and are open, of whoever's it is.
func TestReady(t *testing.T) {
	for _, c := range layouts() {
		b := newBench(t, c)
		for who, q := range c.Tenants {
			for dev := 0; dev < q.Devs; dev += 2 {
				b.do(ask(who, api.Open, uint64(dev)))
			}
			for _, dev := range []int{0, 1, q.Devs - 1, q.Devs, q.Devs + 1, 63, 64, 255} {
				for _, mask := range []int{1, 2, 5, 7} {
					if e := comes(who, max(dev, 0), mask); !b.do(e) {
						t.Fatalf("Do(%v) = false", e)
					}
				}
				b.same()
			}
		}
		b.all(tick(100))
	}
}

// P17.1: what came of a device is told at the end of its tenant's next slot, by the handle that watches it.
func TestSignals(t *testing.T) {
	b := newBench(t, pair(0))
	x := h(0, 1, 15)
	for who := range 2 {
		b.do(ask(who, api.Open, uint64(who)))
		b.do(ask(who, api.Watch, x, 7, 1))
	}
	b.all(comes(0, 0, 3), comes(1, 1, 4), comes(0, 1, 7), comes(1, 0, 7), tick(3), comes(0, 0, 1), tick(7))
	b.wantTrace(0, answer(api.Open, x, 0), answer(api.Watch, 0, 0), signalOf(x, 3, 2), signalOf(x, 1, 7))
	b.wantTrace(1, answer(api.Open, x, 0), answer(api.Watch, 0, 0), signalOf(x, 4, 5))
}

// busy is a bench whose tenants have something of everything, and something to be told.
func busy(t testing.TB, c api.Cfg) *bench {
	b := newBench(t, c)
	for who := range c.Tenants {
		b.do(ask(who, api.Timer))
		b.do(ask(who, api.Arm, h(0, 1, 15), 1, 1))
		b.do(ask(who, api.Open))
		b.do(ask(who, api.Watch, h(1, 1, 15), 7))
	}
	b.do(tick(6))
	for who := range c.Tenants {
		b.do(comes(who, 0, 3))
	}
	b.same()
	return b
}

// P17.1, P17.2, P1: entries of every kind, right ones, and each field at, below and above its bounds, of tenants that
// there are and that there aren't. Those that may not be, and those that are for nobody, turn nothing: at the end of all
// of them everything goes on as if there had been none.
func TestEntries(t *testing.T) {
	for _, c := range []api.Cfg{single(), pair(0), eight(), pair(most - 9), pair(most)} {
		idle := busy(t, c)
		was := look(idle.s)
		may, mayNot := 0, 0
		for _, e := range entries() {
			if mayBe(e) && e.Who < len(c.Tenants) {
				may++
				b := busy(t, c)
				b.all(e)
				b.all(tick(17))
				continue
			}
			mayNot++
			if idle.do(e) || !look(idle.s).same(was) {
				t.Fatalf("behind Do(%v): %v; was %v", e, look(idle.s), was)
			}
		}
		idle.all(tick(17))
		if fresh := busy(t, c); !fresh.do(tick(17)) || !look(fresh.s).same(look(idle.s)) {
			t.Errorf("entries that aren't right turn the service of %v", c)
		}
		if may < 100 || mayNot < 1000 {
			t.Errorf("of the entries of %v %d are done, %d aren't", c, may, mayNot)
		}
	}
}

// entries are right ones of every kind, and these with each field at other numbers.
func entries() []api.Entry {
	plain := []api.Entry{tick(1), tick(50), tick(100), {}, {Kind: 3}, {Kind: 3, Mask: 1}, {Kind: -1, N: 1}}
	for _, who := range []int{0, 1, 7} {
		for op, n := range argsOf() {
			plain = append(plain, ask(who, op, []uint64{h(0, 1, 15), 1, 1}[:n]...))
		}
		plain = append(plain, comes(who, 0, 7), comes(who, 1, 1))
	}
	numbers := []int{math.MinInt, -1, 0, 1, 2, 3, 7, 8, 12, 13, 100, 101, 255, 256, 1 << 32, math.MaxInt}
	var list []api.Entry
	for _, e := range plain {
		for field := range 9 {
			for _, n := range numbers {
				list = append(list, with(e, field, n))
			}
		}
	}
	return list
}

// with is an entry with another number in one field.
func with(e api.Entry, field, n int) api.Entry {
	switch field {
	case 0:
		e.Kind = n
	case 1:
		e.Who = n
	case 2:
		e.N = n
	case 3:
		e.Dev = n
	case 4:
		e.Mask = n
	case 5:
		e.Call.Op = n
	case 6:
		e.Call.A = uint64(n)
	case 7:
		e.Call.B = uint64(n)
	case 8:
		e.Call.C = uint64(n)
	}
	return e
}

// P17.2: for each Who that a byte tells, there is such a tenant, or nothing is turned; of the other tenants nothing is
// turned either way.
func TestWho(t *testing.T) {
	for _, c := range []api.Cfg{single(), pair(0), triple(), eight()} {
		s := made(t, c)
		for k := range c.Tenants {
			s.Do(ask(k, api.Open))
		}
		for who := range 256 {
			for _, e := range []api.Entry{ask(who, api.Now), ask(who, api.Timer), ask(who, api.Open), comes(who, 0, 1)} {
				was := look(s)
				if got := s.Do(e); got != (who < len(c.Tenants)) {
					t.Fatalf("of %d tenants Do(%v) = %v", len(c.Tenants), e, got)
				}
				is := look(s)
				if who < len(c.Tenants) {
					is.traces[who], is.shots[who] = was.traces[who], was.shots[who]
				}
				if !is.same(was) {
					t.Fatalf("of %d tenants Do(%v): %v; was %v", len(c.Tenants), e, is, was)
				}
			}
		}
	}
}
