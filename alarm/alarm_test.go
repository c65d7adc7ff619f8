package alarm

import (
	"math"
	"math/big"
	"slices"
	"testing"

	"nightjar/slab"
)

const greatest = math.MaxUint64

// model is timers as the document's words have them: place by place, nil is one that there isn't, and those that are
// set in the order in which they were.
type model struct {
	now  uint64
	rows []*Row
	set  []int
}

func (m *model) has(k int) bool { return k >= 0 && k < len(m.rows) && m.rows[k] != nil }

func (m *model) count() int {
	n := 0
	for _, row := range m.rows {
		if row != nil {
			n++
		}
	}
	return n
}

func (m *model) make() (int, bool) {
	for k, row := range m.rows {
		if row == nil {
			m.rows[k] = &Row{}
			return k, true
		}
	}
	return 0, false
}

func (m *model) look(k int) (Row, bool) {
	if !m.has(k) {
		return Row{}, false
	}
	return *m.rows[k], true
}

func (m *model) unset(k int) {
	m.set = slices.DeleteFunc(m.set, func(n int) bool { return n == k })
}

func (m *model) free(k int) bool {
	if !m.has(k) {
		return false
	}
	m.unset(k)
	m.rows[k] = nil
	return true
}

func (m *model) arm(k int, handle, at, period uint64) bool {
	if !m.has(k) {
		return false
	}
	m.unset(k)
	m.set = append(m.set, k)
	*m.rows[k] = Row{State: Set, Handle: handle, At: at, Period: period}
	return true
}

func (m *model) stop(k int) bool {
	if !m.has(k) || m.rows[k].State == Idle {
		return false
	}
	m.unset(k)
	*m.rows[k] = Row{}
	return true
}

func (m *model) to(to uint64) []int {
	m.now = max(m.now, to)
	var due []int
	for _, k := range m.set {
		if m.rows[k].At <= m.now {
			due = append(due, k)
		}
	}
	slices.SortStableFunc(due, func(a, b int) int {
		switch x, y := m.rows[a].At, m.rows[b].At; {
		case x < y:
			return -1
		case x > y:
			return 1
		}
		return 0
	})
	for _, k := range due {
		m.unset(k)
		m.rows[k].State = Due
	}
	return due
}

func (m *model) sent(k int, stamp uint64) uint64 {
	if !m.has(k) || m.rows[k].State != Due {
		return 0
	}
	row := *m.rows[k]
	at, periods, ok := nextBehind(row.At, row.Period, stamp)
	if !ok {
		*m.rows[k] = Row{}
		return 1
	}
	m.arm(k, row.Handle, at, row.Period)
	return periods
}

// nextBehind is the first time behind a stamp that is one period or more behind a time, by numbers without end.
func nextBehind(at, period, stamp uint64) (uint64, uint64, bool) {
	if period == 0 {
		return 0, 0, false
	}
	one, step := big.NewInt(1), new(big.Int).SetUint64(period)
	n := new(big.Int).Set(one)
	if stamp >= at {
		n.Div(new(big.Int).SetUint64(stamp-at), step)
		n.Add(n, one)
	}
	next := new(big.Int).Mul(n, step)
	next.Add(next, new(big.Int).SetUint64(at))
	if !next.IsUint64() {
		return 0, 0, false
	}
	return next.Uint64(), n.Uint64(), true
}

// pair is a book, and the model of which all its answers are asked.
type pair struct {
	b *Book
	m *model
}

func newPair(places int, now uint64) pair {
	region := slab.New[Row]([]int{places}).Region(0)
	return pair{b: New(region, now), m: &model{now: now, rows: make([]*Row, max(0, min(places, 256)))}}
}

// full is a pair in which every timer is made.
func full(places int, now uint64) pair {
	p := newPair(places, now)
	for range places {
		p.b.Make()
		p.m.make()
	}
	return p
}

func (p pair) make(t *testing.T) {
	t.Helper()
	want, is := p.m.make()
	if k, ok := p.b.Make(); k != want || ok != is {
		t.Fatalf("Make = %d, %v; want %d, %v", k, ok, want, is)
	}
}

func (p pair) free(t *testing.T, k int) {
	t.Helper()
	want := p.m.free(k)
	if got := p.b.Free(k); got != want {
		t.Fatalf("Free(%d) = %v; want %v", k, got, want)
	}
}

func (p pair) arm(t *testing.T, k int, handle, at, period uint64) {
	t.Helper()
	want := p.m.arm(k, handle, at, period)
	if got := p.b.Arm(k, handle, at, period); got != want {
		t.Fatalf("at %d: Arm(%d, %d, %d, %d) = %v; want %v", p.m.now, k, handle, at, period, got, want)
	}
}

func (p pair) stop(t *testing.T, k int) {
	t.Helper()
	want := p.m.stop(k)
	if got := p.b.Stop(k); got != want {
		t.Fatalf("at %d: Stop(%d) = %v; want %v", p.m.now, k, got, want)
	}
}

func (p pair) to(t *testing.T, to uint64) {
	t.Helper()
	was := p.m.now
	want := p.m.to(to)
	if got := p.b.To(to); !slices.Equal(got, want) {
		t.Fatalf("at %d: To(%d) = %v; want %v", was, to, got, want)
	}
}

func (p pair) sent(t *testing.T, k int, stamp uint64) {
	t.Helper()
	row, _ := p.m.look(k)
	want := p.m.sent(k, stamp)
	if got := p.b.Sent(k, stamp); got != want {
		t.Fatalf("at %d, of %v: Sent(%d, %d) = %d; want %d", p.m.now, row, k, stamp, got, want)
	}
}

func (p pair) sameLook(t *testing.T, k int) {
	t.Helper()
	want, is := p.m.look(k)
	if row, ok := p.b.Look(k); row != want || ok != is {
		t.Fatalf("at %d: Look(%d) = %v, %v; want %v, %v", p.m.now, k, row, ok, want, is)
	}
}

func (p pair) sameCounts(t *testing.T) {
	t.Helper()
	if p.b.Count() != p.m.count() || p.b.Armed() != len(p.m.set) {
		t.Fatalf("Count, Armed = %d, %d; want %d, %d", p.b.Count(), p.b.Armed(), p.m.count(), len(p.m.set))
	}
}

// same holds all that is to be seen of the book against the model.
func (p pair) same(t *testing.T) {
	t.Helper()
	p.sameCounts(t)
	for k := -2; k < len(p.m.rows)+2; k++ {
		p.sameLook(t, k)
		p.sound(t, k)
	}
}

// sound holds a timer's alarm in the wheel against its row.
func (p pair) sound(t *testing.T, k int) {
	t.Helper()
	row, _ := p.b.Look(k)
	if at, _, ok := p.b.wheel.At(k); ok != (row.State == Set) || ok && at != row.At {
		t.Fatalf("the timer %d is %v, its alarm %d, %v", k, row, at, ok)
	}
}

// wild are numbers of timers that there are none of.
func wild() []int {
	return []int{math.MinInt, math.MinInt + 1, -257, -256, -1, 256, 257, 4096, 1 << 32, math.MaxInt - 1, math.MaxInt}
}

// edges are times on both sides of some powers of 2, with 0 and the greatest one.
func edges() []uint64 {
	list := []uint64{0, greatest - 2, greatest - 1, greatest}
	for _, i := range []int{0, 1, 2, 5, 6, 7, 12, 18, 31, 32, 33, 48, 60, 62, 63} {
		power := uint64(1) << i
		list = append(list, power-1, power, power+1)
	}
	slices.Sort(list)
	return slices.Compact(list)
}

// starts are times to begin at.
func starts() []uint64 {
	return []uint64{0, 1, 63, 100, 4096, 1<<36 - 1, 1 << 63, greatest - 5000, greatest - 64, greatest - 1, greatest}
}

// around are times near a time and far from it, ahead and behind, and the time itself.
func around(now uint64) []uint64 {
	var list []uint64
	for _, gap := range edges() {
		if gap <= greatest-now {
			list = append(list, now+gap)
		}
		if gap <= now {
			list = append(list, now-gap)
		}
	}
	slices.Sort(list)
	return slices.Compact(list)
}

// on is a time that is so many ticks on, or the greatest one.
func on(now, ticks uint64) uint64 { return now + min(ticks, greatest-now) }

// back is a time that is so many ticks behind, or 0.
func back(now, ticks uint64) uint64 { return now - min(ticks, now) }

// steps is a fixed run of numbers, to make calls of.
func steps(count int) []uint64 {
	list := make([]uint64, 0, count)
	x := uint64(0x9E3779B97F4A7C15)
	for range count {
		x ^= x << 13
		x ^= x >> 7
		x ^= x << 17
		list = append(list, x>>3)
	}
	return list
}

// pick is one of some times.
func pick(list []uint64, n uint64) uint64 { return list[n%uint64(len(list))] }

// The chapter's example.
func TestExample(t *testing.T) {
	b := New(slab.New[Row]([]int{2}).Region(0), 100)
	b.Make()
	b.Make()
	b.Arm(0, 7, 150, 20)
	b.Arm(1, 8, 140, 0)
	if got := b.To(160); !slices.Equal(got, []int{1, 0}) {
		t.Errorf("To(160) = %v", got)
	}
	if got := b.Sent(0, 160); got != 1 {
		t.Errorf("Sent = %d", got)
	}
	if row, ok := b.Look(0); row != (Row{State: Set, Handle: 7, At: 170, Period: 20}) || !ok {
		t.Errorf("Look(0) = %v, %v", row, ok)
	}
}

// P8.1: the states are counted from 0 on.
func TestStatesNumbers(t *testing.T) {
	if Idle != 0 || Set != 1 || Due != 2 {
		t.Errorf("the states are %d, %d, %d", Idle, Set, Due)
	}
}

// P8.1, P4: a book has as many timers as its region has places, and no more; each is idle; the first free place is taken.
func TestMake(t *testing.T) {
	for _, places := range []int{-1, 0, 1, 2, 7, 64, 255, 256, 257, 5000} {
		p := newPair(places, 50)
		p.same(t)
		for range len(p.m.rows) + 2 {
			p.make(t)
			p.sameCounts(t)
		}
		p.same(t)
	}
}

// P1: a slab answers nil for a region that it hasn't; a book of it has no timers.
func TestNoRegion(t *testing.T) {
	b := New(slab.New[Row]([]int{3}).Region(1), 9)
	if k, ok := b.Make(); k != 0 || ok {
		t.Errorf("Make = %d, %v", k, ok)
	}
	if _, ok := b.Look(0); ok || b.Arm(0, 1, 2, 3) || b.Stop(0) || b.Free(0) || b.Sent(0, 9) != 0 {
		t.Error("there is a timer")
	}
	if got := b.To(greatest); len(got) != 0 || b.Count() != 0 || b.Armed() != 0 {
		t.Errorf("To = %v", got)
	}
}

// P8.1: a timer that is let go is none any more; the first free place is made again, idle, whatever was there.
func TestFreeAndMakeAgain(t *testing.T) {
	const places = 5
	for mask := range 1 << places {
		for _, to := range []uint64{100, 150} {
			p := full(places, 100)
			for k := range places {
				p.arm(t, k, uint64(k), 150, 20)
			}
			p.to(t, to)
			for k := range places {
				if mask>>k&1 == 1 {
					p.free(t, k)
					p.free(t, k)
					p.same(t)
				}
			}
			p.to(t, 151)
			for range places + 1 {
				p.make(t)
				p.same(t)
			}
			p.to(t, greatest)
			p.same(t)
		}
	}
}

// P8.1, P4, P1: of timers that there are none of nothing is done, and nothing is turned.
func TestNoSuchTimer(t *testing.T) {
	for _, places := range []int{0, 1, 4, 256} {
		p := full(places, 100)
		p.arm(t, 0, 5, 120, 7)
		p.arm(t, 1, 6, 100, 7)
		p.to(t, 100)
		p.free(t, 3)
		for _, k := range append(wild(), places, places+1, 3) {
			if p.m.has(k) {
				continue
			}
			for _, at := range []uint64{0, 100, 110, greatest} {
				p.arm(t, k, 9, at, 1)
				p.sent(t, k, at)
			}
			p.stop(t, k)
			p.free(t, k)
			p.sameLook(t, k)
		}
		p.same(t)
		p.to(t, 120)
		p.same(t)
	}
}

// inState is a book with one timer in a state, or without it.
func inState(t *testing.T, state int) pair {
	t.Helper()
	p := newPair(2, 100)
	p.make(t)
	p.make(t)
	p.arm(t, 1, 3, 115, 10)
	if state == Set {
		p.arm(t, 0, 7, 110, 4)
	}
	if state == Due {
		p.arm(t, 0, 7, 90, 4)
	}
	p.to(t, 101)
	if state < 0 {
		p.free(t, 0)
	}
	p.same(t)
	return p
}

// P8.1: each call of a timer in each of its states, and all that is to be seen behind it.
func TestEachCallInEachState(t *testing.T) {
	calls := []func(p pair){
		func(p pair) { p.make(t) },
		func(p pair) { p.free(t, 0) },
		func(p pair) { p.sameLook(t, 0) },
		func(p pair) { p.arm(t, 0, 8, 0, 0) },
		func(p pair) { p.arm(t, 0, 8, 101, 0) },
		func(p pair) { p.arm(t, 0, 8, 105, 3) },
		func(p pair) { p.arm(t, 0, 8, 115, 3) },
		func(p pair) { p.arm(t, 0, 0, 120, greatest) },
		func(p pair) { p.stop(t, 0) },
		func(p pair) { p.to(t, 100) },
		func(p pair) { p.to(t, 110) },
		func(p pair) { p.to(t, 130) },
		func(p pair) { p.sent(t, 0, 89) },
		func(p pair) { p.sent(t, 0, 90) },
		func(p pair) { p.sent(t, 0, 101) },
		func(p pair) { p.sent(t, 0, greatest) },
	}
	for state := -1; state <= Due; state++ {
		for _, first := range calls {
			for _, second := range calls {
				p := inState(t, state)
				first(p)
				p.same(t)
				second(p)
				p.same(t)
				p.to(t, 115)
				p.same(t)
				p.to(t, greatest)
				p.same(t)
			}
		}
	}
}

// P8.1: what is armed anew while it is set comes at its new time alone, ahead of the old one, at it, or behind it.
func TestArmAnewWhileSet(t *testing.T) {
	for _, now := range starts() {
		times := around(now)
		for i, was := range times {
			at := times[(i*17+5)%len(times)]
			p := full(2, now)
			p.arm(t, 0, 1, was, 5)
			p.arm(t, 1, 2, at, 0)
			p.arm(t, 0, 3, at, 0)
			p.same(t)
			p.to(t, back(at, 1))
			p.to(t, min(was, at))
			p.to(t, at)
			p.same(t)
			p.to(t, greatest)
			p.same(t)
		}
	}
}

// P8.1: what is armed anew while it is due isn't due any more, till its new time comes.
func TestArmAnewWhileDue(t *testing.T) {
	for _, now := range starts() {
		for _, at := range around(now) {
			p := full(1, now)
			p.arm(t, 0, 1, now, 5)
			p.to(t, now)
			p.same(t)
			p.arm(t, 0, 2, at, 0)
			p.same(t)
			p.sent(t, 0, now)
			p.same(t)
			p.to(t, back(at, 1))
			p.same(t)
			p.to(t, at)
			p.same(t)
			p.sent(t, 0, at)
			p.to(t, greatest)
			p.same(t)
		}
	}
}

// P8.1: what is stopped is idle, isn't told, and is stopped once.
func TestStop(t *testing.T) {
	for _, at := range []uint64{0, 99, 100, 101, 200, 5000, greatest} {
		for _, to := range []uint64{0, 100, 101, 5000, greatest} {
			p := full(3, 100)
			p.stop(t, 0)
			for k := range 3 {
				p.arm(t, k, 7, at, 9)
			}
			p.to(t, to)
			p.stop(t, 1)
			p.same(t)
			p.stop(t, 1)
			p.sent(t, 1, to)
			p.same(t)
			p.to(t, at)
			p.same(t)
			p.to(t, greatest)
			p.stop(t, 1)
			p.same(t)
		}
	}
}

// P8.1: a timer for any time, from any time on: not ahead of it, once, at the first step that comes to it, or past it.
func TestTimes(t *testing.T) {
	for _, now := range starts() {
		for _, at := range around(now) {
			p := full(1, now)
			p.arm(t, 0, at, at, 0)
			p.same(t)
			if at > 0 {
				p.to(t, at-1)
				p.same(t)
			}
			p.to(t, at)
			p.same(t)
			p.to(t, on(at, 1))
			p.to(t, greatest)
			p.same(t)

			p = full(1, now)
			p.arm(t, 0, 1, at, 0)
			p.to(t, on(now, 1))
			p.same(t)
			p.to(t, on(at, 1000))
			p.same(t)
		}
	}
}

// P8.1, P5: by rising times, those of one time in the order in which they were set, not in that of their numbers.
func TestOrder(t *testing.T) {
	const timers = 12
	for _, now := range []uint64{0, 100, 4095, 1 << 40, greatest - 3000} {
		for _, times := range []uint64{1, 2, 5} {
			for _, apart := range []uint64{1, 64, 1000} {
				for by := range timers {
					p := full(timers, now)
					for i := range timers {
						k := (i*5 + by) % timers
						p.arm(t, k, uint64(k), now+1+uint64(k)%times*apart, 0)
						if i%4 == 3 {
							p.arm(t, (by+i)%timers, 99, now+1, 0)
						}
					}
					p.same(t)
					p.to(t, now+1)
					p.same(t)
					p.to(t, greatest)
					p.same(t)
				}
			}
		}
	}
}

// P8.1, P5: one that is armed anew, for the same time, comes behind those that were set meanwhile; so does one that
// was told, and is set again.
func TestSetAgainIsBehind(t *testing.T) {
	b := New(slab.New[Row]([]int{3}).Region(0), 0)
	for k := range 3 {
		b.Make()
		b.Arm(k, 1, 10, 5)
	}
	b.Arm(1, 1, 10, 5)
	b.Arm(0, 1, 10, 5)
	if got := b.To(10); !slices.Equal(got, []int{2, 1, 0}) {
		t.Errorf("To(10) = %v", got)
	}
	for _, k := range []int{1, 0, 2} {
		b.Sent(k, 12)
	}
	if got := b.To(15); !slices.Equal(got, []int{1, 0, 2}) {
		t.Errorf("To(15) = %v", got)
	}
}

// P8.1: those of one time, set at times near and far, keep the order in which they were.
func TestOneTimeFromManyTimes(t *testing.T) {
	for _, at := range []uint64{70, 4096, 1<<18 + 77, 1 << 40, greatest} {
		p := full(60, 0)
		k := 0
		for _, gap := range slices.Backward(edges()) {
			if gap > at {
				continue
			}
			p.to(t, at-gap)
			p.arm(t, k*7%60, 1, at, 0)
			k++
		}
		p.same(t)
		p.to(t, at)
		p.same(t)
	}
}

// P8.1: to a time that is no later time stays; what is set for it, or for past times, is told at the next call.
func TestToNoLater(t *testing.T) {
	for _, now := range starts() {
		for _, to := range []uint64{0, now / 2, back(now, 64), back(now, 1), now} {
			p := full(5, now)
			p.to(t, to)
			for k, at := range []uint64{now, to, 0, on(now, 1), now} {
				p.arm(t, k, 1, at, 1)
			}
			p.to(t, to)
			p.same(t)
			p.to(t, to)
			p.same(t)
			p.to(t, on(now, 1))
			p.same(t)
		}
	}
}

// P8.1, P8.2: told at any stamp, of any time and period: the first time behind it, and how many periods that took.
func TestSent(t *testing.T) {
	numbers := append(edges(), 20, 195, greatest/2, greatest/3, greatest/3+1, greatest-20)
	for _, at := range numbers {
		for _, period := range numbers {
			for _, stamp := range append(numbers, around(at)[:20]...) {
				p := full(1, at)
				p.arm(t, 0, 77, at, period)
				p.to(t, 0)
				p.sent(t, 0, stamp)
				p.sameLook(t, 0)
				p.sameCounts(t)
				p.sent(t, 0, stamp)
			}
		}
	}
}

// P8.1, P8.2: the edges of a next time, number by number.
func TestSentEdges(t *testing.T) {
	for _, c := range []struct{ at, period, stamp, periods, next uint64 }{
		{at: 150, period: 20, stamp: 0, periods: 1, next: 170},
		{at: 150, period: 20, stamp: 149, periods: 1, next: 170},
		{at: 150, period: 20, stamp: 150, periods: 1, next: 170},
		{at: 150, period: 20, stamp: 169, periods: 1, next: 170},
		{at: 150, period: 20, stamp: 170, periods: 2, next: 190},
		{at: 150, period: 20, stamp: 195, periods: 3, next: 210},
		{at: 150, period: 1, stamp: 150, periods: 1, next: 151},
		{at: 0, period: 1, stamp: greatest - 1, periods: greatest, next: greatest},
		{at: 0, period: greatest, stamp: 5, periods: 1, next: greatest},
		{at: 1, period: greatest - 1, stamp: greatest - 1, periods: 1, next: greatest},
		{at: greatest - 20, period: 20, stamp: greatest - 1, periods: 1, next: greatest},
	} {
		p := full(1, greatest)
		p.arm(t, 0, 5, c.at, c.period)
		p.to(t, 0)
		if got := p.b.Sent(0, c.stamp); got != c.periods {
			t.Errorf("%v: Sent = %d", c, got)
		}
		if row, _ := p.b.Look(0); row != (Row{State: Set, Handle: 5, At: c.next, Period: c.period}) {
			t.Errorf("%v: Look = %v", c, row)
		}
	}
}

// P8.1: where there is no next time, or no period, it is idle: 1; nothing of it is kept.
func TestSentForTheLastTime(t *testing.T) {
	for _, c := range []struct{ at, period, stamp uint64 }{
		{at: 150, period: 0, stamp: 0},
		{at: 150, period: 0, stamp: 150},
		{at: 150, period: 0, stamp: greatest},
		{at: 0, period: 1, stamp: greatest},
		{at: 1, period: greatest, stamp: 1},
		{at: 0, period: greatest, stamp: greatest},
		{at: greatest, period: 1, stamp: 0},
		{at: greatest - 20, period: 21, stamp: 3},
		{at: greatest - 20, period: 20, stamp: greatest},
		{at: greatest - 20, period: 7, stamp: greatest - 6},
	} {
		p := full(1, greatest)
		p.arm(t, 0, 5, c.at, c.period)
		p.to(t, 0)
		if got := p.b.Sent(0, c.stamp); got != 1 {
			t.Errorf("%v: Sent = %d", c, got)
		}
		if row, ok := p.b.Look(0); row != (Row{}) || !ok || p.b.Armed() != 0 || p.b.Count() != 1 {
			t.Errorf("%v: Look = %v, %v", c, row, ok)
		}
		if p.b.Sent(0, c.stamp) != 0 || len(p.b.To(greatest)) != 0 {
			t.Errorf("%v: it is told again", c)
		}
	}
}

// P8.1: one that isn't due isn't told, and stays as it is.
func TestSentOfNotDue(t *testing.T) {
	p := full(4, 100)
	p.arm(t, 1, 1, 100, 5)
	p.arm(t, 2, 2, 300, 5)
	p.free(t, 3)
	for _, stamp := range edges() {
		for k := -1; k < 6; k++ {
			p.sent(t, k, stamp)
		}
		p.same(t)
	}
	p.to(t, 100)
	p.same(t)
}

// P8.2: told at once, tick by tick, it comes at each of its times.
func TestEachOfItsTimes(t *testing.T) {
	for _, now := range []uint64{0, 60, 4090, 1<<36 - 100, greatest - 1000} {
		for _, period := range []uint64{1, 2, 3, 20, 63, 64, 65, 300} {
			b := New(slab.New[Row]([]int{1}).Region(0), now)
			b.Make()
			b.Arm(0, 1, now+5, period)
			for tick := now + 1; tick < now+999; tick++ {
				got := len(b.To(tick)) == 1
				if want := tick >= now+5 && (tick-now-5)%period == 0; got != want {
					t.Fatalf("from %d on, period %d: at %d it comes: %v", now, period, tick, got)
				}
				if got && b.Sent(0, tick) != 1 {
					t.Fatalf("from %d on, period %d: at %d it took more", now, period, tick)
				}
			}
		}
	}
}

// P8.2: in steps of any size it comes where its time is over, and then at the next one behind; the periods that were
// told are all there were.
func TestNoneIsForgotten(t *testing.T) {
	for _, period := range []uint64{1, 2, 7, 64, 1000, 1 << 33} {
		for _, size := range []uint64{1, 3, 50, 5000, 1 << 30, 1 << 40} {
			const first = 1000
			b := New(slab.New[Row]([]int{1}).Region(0), 0)
			b.Make()
			b.Arm(0, 1, first, period)
			now, told := uint64(0), uint64(0)
			for _, step := range steps(300) {
				now += step % size
				if len(b.To(now)) == 1 {
					told += b.Sent(0, now)
				}
				over := uint64(0)
				if now >= first {
					over = (now-first)/period + 1
				}
				row, _ := b.Look(0)
				if told != over || row.At != first+over*period || b.Armed() != 1 {
					t.Fatalf("period %d, at %d: %d periods are told, of %d; it is %v", period, now, told, over, row)
				}
			}
		}
	}
}

// P8.2: one that is due waits to be told, however long that takes, and isn't due twice.
func TestDueWaits(t *testing.T) {
	p := full(2, 0)
	p.arm(t, 0, 1, 10, 10)
	p.arm(t, 1, 2, 10, 0)
	for _, to := range []uint64{10, 11, 20, 25, 5000, 1 << 50} {
		p.to(t, to)
		p.same(t)
	}
	p.sent(t, 0, 1<<50)
	p.sent(t, 1, 1<<50)
	p.same(t)
	p.to(t, 1<<50+9)
	p.same(t)
}

// P8.1: told at a stamp that is behind the book's time, its next time may be over: it comes at the next call.
func TestStampBehindTheTime(t *testing.T) {
	p := full(1, 0)
	p.arm(t, 0, 1, 10, 10)
	p.to(t, 100)
	for _, stamp := range []uint64{0, 25, 35, 35, 99, 100} {
		p.sent(t, 0, stamp)
		p.same(t)
		p.to(t, 100)
		p.same(t)
	}
}

// call makes one call of a step, of timers that there are and others, near times and far ones.
func (p pair) call(t *testing.T, step uint64) {
	t.Helper()
	k := int(step>>8%uint64(len(p.m.rows)+4)) - 2
	period := pick(edges(), step>>44)
	if step>>50%2 == 0 {
		period = step >> 44 % 20
	}
	switch step % 10 {
	case 0, 1:
		p.make(t)
	case 2, 3:
		p.arm(t, k, step>>20, pick(around(p.m.now), step>>24), period)
	case 4:
		p.arm(t, k, step>>20, on(p.m.now, step>>24%30), period)
	case 5:
		p.stop(t, k)
	case 6:
		p.to(t, on(p.m.now, step>>24%100))
	case 7, 8:
		p.sent(t, k, pick([]uint64{p.m.now, on(p.m.now, step>>24%40), back(p.m.now, step>>24%40)}, step>>40))
	default:
		if step>>30%3 == 0 {
			p.free(t, k)
		}
	}
	p.sameLook(t, k)
	p.sameCounts(t)
}

// P8.1: long mixed orders of calls, from many times on, and far on now and then.
func TestMixedOrder(t *testing.T) {
	for _, places := range []int{0, 1, 2, 6, 40} {
		for _, now := range starts() {
			p := newPair(places, now)
			for i, step := range steps(1500) {
				p.call(t, step)
				if i%40 == 0 {
					p.same(t)
				}
				if i%400 == 399 {
					p.to(t, pick(around(p.m.now), step>>30))
				}
			}
			p.same(t)
			p.to(t, greatest)
			p.same(t)
		}
	}
}

// P8.1: every order of five calls, of two timers.
func TestEveryShortOrder(t *testing.T) {
	const now, length = 62, 5
	calls := []func(p pair){
		func(p pair) { p.make(t) },
		func(p pair) { p.free(t, 0) },
		func(p pair) { p.arm(t, 0, 1, now+2, 3) },
		func(p pair) { p.arm(t, 0, 2, now-1, 0) },
		func(p pair) { p.arm(t, 1, 3, now+2, 70) },
		func(p pair) { p.stop(t, 0) },
		func(p pair) { p.stop(t, 1) },
		func(p pair) { p.to(t, now) },
		func(p pair) { p.to(t, now+6) },
		func(p pair) { p.sent(t, 0, now+6) },
		func(p pair) { p.sent(t, 1, now+6) },
	}
	orders := 1
	for range length {
		orders *= len(calls)
	}
	for order := range orders {
		p := newPair(2, now)
		p.make(t)
		for rest, i := order, 0; i < length; rest, i = rest/len(calls), i+1 {
			calls[rest%len(calls)](p)
		}
		p.same(t)
		p.to(t, now+9)
		p.same(t)
	}
}

// P8.1, P4: all timers that there may be, of one time, and of as many.
func TestFull(t *testing.T) {
	for _, gap := range []uint64{0, 1, 63, 1 << 50} {
		p := newPair(256, 77)
		for range 257 {
			p.make(t)
		}
		for i := range 256 {
			k := (255 - i*5) & 255
			p.arm(t, k, uint64(k), 80+gap*uint64(k), gap)
		}
		p.same(t)
		p.to(t, 79)
		p.to(t, 80)
		p.to(t, greatest)
		p.same(t)
		for k := range 256 {
			p.sent(t, k, 80+gap*300)
		}
		p.same(t)
	}
}

// Rules: what To answers is new memory, spare room too, and is the caller's to write over.
func TestToIsNewMemory(t *testing.T) {
	p := full(6, 0)
	for range 3 {
		for k := range 5 {
			p.arm(t, k, 1, p.m.now+uint64(k%3*70), 0)
		}
		to := p.m.now + 70
		p.m.to(to)
		told := p.b.To(to)
		kept := slices.Clone(told)
		p.to(t, to+1)
		if !slices.Equal(told, kept) {
			t.Fatalf("an answer was changed later: %v; it was %v", told, kept)
		}
		told = told[:cap(told)]
		for i := range told {
			told[i] = 5
		}
		p.same(t)
		p.to(t, to+200)
		p.same(t)
	}
}

// P2, P3: what is done in one book makes no difference in another, of the same slab.
func TestBooksAreApart(t *testing.T) {
	both := slab.New[Row]([]int{4, 4})
	a := pair{b: New(both.Region(0), 100), m: &model{now: 100, rows: make([]*Row, 4)}}
	b := pair{b: New(both.Region(1), 100), m: &model{now: 100, rows: make([]*Row, 4)}}
	b.make(t)
	b.arm(t, 0, 1, 120, 10)
	for _, step := range steps(500) {
		a.call(t, step)
	}
	a.same(t)
	b.same(t)
	b.to(t, 120)
	b.sent(t, 0, 120)
	b.same(t)
}

// P2: the same calls are answered the same.
func TestSameAgain(t *testing.T) {
	run := func() []int {
		b := New(slab.New[Row]([]int{30}).Region(0), 1000)
		for range 30 {
			b.Make()
		}
		var told []int
		now := uint64(1000)
		for _, step := range steps(600) {
			b.Arm(int(step%30), step, now+step>>10%500, step>>30%90)
			now += step >> 40 % 100
			due := b.To(now)
			for _, k := range due {
				told = append(told, k, int(b.Sent(k, now)))
			}
		}
		return told
	}
	want := run()
	for range 5 {
		if got := run(); !slices.Equal(got, want) {
			t.Fatal("the same calls are answered otherwise")
		}
	}
}
