package svc_test

import (
	"math/big"
	"slices"
	"testing"

	"nightjar/api"
)

// clocks is a bench whose tenants have, if they may, a timer that is told at the end of each of their slots.
func clocks(t testing.TB, c api.Cfg) *bench {
	b := newBench(t, c)
	for who := range c.Tenants {
		b.do(ask(who, api.Timer))
		b.do(ask(who, api.Arm, h(0, 1, 15), 0, 1))
	}
	return b
}

// stamps are the times at which a tenant was told an alarm.
func stamps(trace []api.Item) []uint64 {
	var list []uint64
	for _, i := range trace {
		if i.Kind == 1 {
			list = append(list, i.Stamp)
		}
	}
	return list
}

// ends are the ends of a tenant's slots behind a time, up to another one, by the words of layer 9: a cycle comes again and
// again from the time 0 on. They are reckoned with numbers without end.
func ends(c api.Cfg, who int, from, to uint64) []uint64 {
	cycle := int64(0)
	for _, slot := range c.Slots {
		cycle += int64(slot.Len)
	}
	first, last := new(big.Int).SetUint64(from), new(big.Int).SetUint64(to)
	at := new(big.Int).Div(first, big.NewInt(cycle))
	at.Mul(at, big.NewInt(cycle))
	var list []uint64
	for at.Cmp(last) < 0 {
		for _, slot := range c.Slots {
			at = new(big.Int).Add(at, big.NewInt(int64(slot.Len)))
			if slot.Owner == who && at.Cmp(first) > 0 && at.Cmp(last) <= 0 {
				list = append(list, at.Uint64())
			}
		}
	}
	return list
}

// P17.1: a tenant's slots end when the plan says so, wherever in a cycle all begins, and at no other time.
func TestSlotEnds(t *testing.T) {
	list := layouts()
	for _, first := range []uint64{1, 2, 4, 5, 6, 7, 99, 1 << 40} {
		list = append(list, pair(first))
		c := triple()
		c.First = first
		list = append(list, c)
	}
	for _, c := range list {
		b := clocks(t, c)
		for range 30 {
			b.do(tick(1))
		}
		for range 30 {
			b.do(tick(100))
		}
		b.same()
		for who, q := range c.Tenants {
			if want := ends(c, who, c.First, b.s.Now()); q.Timers > 0 && !slices.Equal(stamps(b.s.Trace(who)), want) {
				t.Fatalf("of %v slots of %d end at %v; want %v", c, who, stamps(b.s.Trace(who)), want)
			}
		}
	}
}

// P17.1: slots of the greatest lengths, and a cycle of the most slots.
func TestLongSlots(t *testing.T) {
	c := pair(0)
	c.Slots = nil
	for k := range 64 {
		c.Slots = append(c.Slots, api.Slot{Owner: k % 2, Len: 1000 - 7*(k%3)})
	}
	b := clocks(t, c)
	for range 1300 {
		b.do(tick(100))
	}
	b.same()
	for who := range 2 {
		want := ends(c, who, 0, 130000)
		if got := stamps(b.s.Trace(who)); len(want) < 60 || !slices.Equal(got, want) {
			t.Errorf("slots of %d end at %v; want %v", who, got, want)
		}
	}
}

// P17.1: at a time at which no slot ends nothing is told, and at one at which one ends its owner alone is told something.
func TestOneIsTold(t *testing.T) {
	for _, c := range layouts() {
		b := clocks(t, c)
		for range 150 {
			was := look(b.s)
			b.all(tick(1))
			is := look(b.s)
			for who := range c.Tenants {
				told := len(is.traces[who]) - len(was.traces[who])
				ended := is.now != was.now && len(ends(c, who, was.now, is.now)) > 0
				if told > 0 && !ended || told == 0 && ended && c.Tenants[who].Timers > 0 {
					t.Fatalf("of %v at %d %d is told %d", c, is.now, who, told)
				}
				if !ended && !alikeShots(was.shots[who], is.shots[who]) {
					t.Fatalf("of %v at %d of %d is to be seen %v; was %v", c, is.now, who, is.shots[who], was.shots[who])
				}
			}
		}
	}
}

// P17.1: so many ticks at once are as many ticks one by one.
func TestManyTicks(t *testing.T) {
	for _, c := range layouts() {
		for n := 1; n <= 100; n += 1 + n/9 {
			many, single := busyOrNot(t, c), busyOrNot(t, c)
			for range 3 {
				many.do(tick(n))
				for range n {
					single.do(tick(1))
				}
				if !look(many.s).same(look(single.s)) {
					t.Fatalf("of %v %d ticks at once: %v; one by one: %v", c, n, look(many.s), look(single.s))
				}
			}
			many.same()
		}
	}
}

// busyOrNot is busy, where the layout has room for that.
func busyOrNot(t testing.TB, c api.Cfg) *bench {
	b := clocks(t, c)
	for who, q := range c.Tenants {
		if q.Devs > 0 && q.Handles > 1 {
			b.do(ask(who, api.Open))
			b.do(ask(who, api.Watch, h(1, 1, 15), 7))
			b.do(comes(who, 0, 3))
		}
	}
	return b
}

// P17.2: at the greatest time nothing happens any more: no tick turns anything, though it is done, and the slot that ended
// then doesn't end again. Who asks is answered all the same.
func TestGreatestTime(t *testing.T) {
	for short := range uint64(12) {
		b := newBench(t, pair(most-short))
		// A slot of 1 ends at the greatest time: with a budget of 1 a timer may be left then, which is told never.
		for k := range uint64(2) {
			b.do(ask(1, api.Timer))
			b.do(ask(1, api.Arm, h(k, 1, 15), 0))
		}
		for range short {
			b.do(tick(1))
		}
		b.same()
		if b.s.Now() != most {
			t.Fatalf("Now = %d", b.s.Now())
		}
		want := ends(b.m.c, 1, most-short, most)
		if got := stamps(b.s.Trace(1)); !slices.Equal(got, want[:min(len(want), 2)]) {
			t.Fatalf("from %d short of the greatest time on there are told %v; want %v", short, got, want)
		}
		b.do(comes(0, 0, 1))
		was := look(b.s)
		for _, n := range []int{1, 2, 5, 100, 100} {
			if !b.do(tick(n)) || !look(b.s).same(was) {
				t.Fatalf("at the greatest time %d ticks: %v; was %v", n, look(b.s), was)
			}
		}
		asked := len(was.traces[0])
		b.all(ask(0, api.Now), ask(0, api.Timer), ask(0, api.Arm, h(0, 1, 15)), ask(0, api.Arm, h(0, 1, 15), 1), tick(100))
		answers := []api.Item{answer(api.Now, most, most), answer(api.Timer, h(0, 1, 15), most), answer(api.Arm, 0, most), refused(api.Arm, api.ErrRange, most)}
		if got := b.s.Trace(0)[asked:]; !slices.Equal(got, answers) {
			t.Fatalf("at the greatest time there are answered %v; want %v", got, answers)
		}
	}
}

// P17.2: ticks that go past the greatest time stop there.
func TestPastGreatestTime(t *testing.T) {
	for short := range uint64(103) {
		for _, n := range []int{1, 3, 99, 100} {
			b := clocks(t, pair(most-short))
			b.all(tick(n))
			want := most - short + min(short, uint64(n))
			if b.s.Now() != want {
				t.Fatalf("from %d short of the greatest time on, behind %d ticks Now = %d", short, n, b.s.Now())
			}
			for who := range 2 {
				if got := stamps(b.s.Trace(who)); !slices.Equal(got, ends(b.m.c, who, most-short, want)) {
					t.Fatalf("from %d short of the greatest time on, behind %d ticks %d is told at %v", short, n, who, got)
				}
			}
		}
	}
}
