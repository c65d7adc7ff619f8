package wheel

import (
	"math"
	"slices"
	"testing"
)

const greatest = math.MaxUint64

// model is alarms as the document's words have them: number by number, nil is one that isn't set.
type model struct {
	now    uint64
	alarms []*setting
}

type setting struct{ at, turn uint64 }

func newModel(alarms int, now uint64) *model {
	return &model{now: now, alarms: make([]*setting, held(alarms))}
}

func held(n int) int {
	switch {
	case n < 0:
		return 0
	case n > 4096:
		return 4096
	}
	return n
}

func (m *model) has(k int) bool {
	return k >= 0 && k < len(m.alarms) && m.alarms[k] != nil
}

func (m *model) len() int {
	n := 0
	for _, a := range m.alarms {
		if a != nil {
			n++
		}
	}
	return n
}

func (m *model) set(k int, at, turn uint64) bool {
	if k < 0 || k >= len(m.alarms) || m.has(k) {
		return false
	}
	m.alarms[k] = &setting{at: at, turn: turn}
	return true
}

func (m *model) unset(k int) bool {
	if !m.has(k) {
		return false
	}
	m.alarms[k] = nil
	return true
}

func (m *model) at(k int) (uint64, uint64, bool) {
	if !m.has(k) {
		return 0, 0, false
	}
	return m.alarms[k].at, m.alarms[k].turn, true
}

// next is the number of the alarm that comes first, by its time, its turn, and its number.
func (m *model) next() (int, bool) {
	next, ok := 0, false
	for k, a := range m.alarms {
		if a == nil {
			continue
		}
		if b := m.alarms[next]; !ok || a.at < b.at || a.at == b.at && a.turn < b.turn {
			next, ok = k, true
		}
	}
	return next, ok
}

func (m *model) first() (uint64, bool) {
	k, ok := m.next()
	if !ok {
		return 0, false
	}
	return m.alarms[k].at, true
}

func (m *model) to(to uint64) []int {
	m.now = max(m.now, to)
	var told []int
	for k, ok := m.next(); ok && m.alarms[k].at <= m.now; k, ok = m.next() {
		told = append(told, k)
		m.alarms[k] = nil
	}
	return told
}

// pair is a wheel, and the model of which all its answers are asked.
type pair struct {
	w *Wheel
	m *model
}

func newPair(alarms int, now uint64) pair {
	return pair{w: New(alarms, now), m: newModel(alarms, now)}
}

func (p pair) set(t *testing.T, k int, at, turn uint64) {
	t.Helper()
	want := p.m.set(k, at, turn)
	if got := p.w.Set(k, at, turn); got != want {
		t.Fatalf("at %d: Set(%d, %d, %d) = %v; want %v", p.m.now, k, at, turn, got, want)
	}
}

func (p pair) unset(t *testing.T, k int) {
	t.Helper()
	want := p.m.unset(k)
	if got := p.w.Unset(k); got != want {
		t.Fatalf("at %d: Unset(%d) = %v; want %v", p.m.now, k, got, want)
	}
}

func (p pair) to(t *testing.T, to uint64) {
	t.Helper()
	was := p.m.now
	want := p.m.to(to)
	if got := p.w.To(to); !slices.Equal(got, want) {
		t.Fatalf("at %d: To(%d) = %v; want %v", was, to, got, want)
	}
}

func (p pair) sameAt(t *testing.T, k int) {
	t.Helper()
	at, turn, ok := p.m.at(k)
	if a, b, c := p.w.At(k); a != at || b != turn || c != ok {
		t.Fatalf("At(%d) = %d, %d, %v; want %d, %d, %v", k, a, b, c, at, turn, ok)
	}
}

func (p pair) sameFirst(t *testing.T) {
	t.Helper()
	want, is := p.m.first()
	if at, ok := p.w.First(); at != want || ok != is {
		t.Fatalf("at %d: First = %d, %v; want %d, %v", p.m.now, at, ok, want, is)
	}
}

// same holds all that is to be seen of the wheel against the model.
func (p pair) same(t *testing.T) {
	t.Helper()
	if p.w.Now() != p.m.now || p.w.Len() != p.m.len() {
		t.Fatalf("Now, Len = %d, %d; want %d, %d", p.w.Now(), p.w.Len(), p.m.now, p.m.len())
	}
	p.sameFirst(t)
	for k := -2; k < len(p.m.alarms)+2; k++ {
		p.sameAt(t, k)
	}
	p.sound(t)
}

// sound holds the wheel's rows against what they are meant to be.
func (p pair) sound(t *testing.T) {
	t.Helper()
	for row, count := range p.w.counts {
		n := 0
		for bucket := range buckets {
			n += p.w.links.Len(listOf(row, bucket))
		}
		if n != count {
			t.Fatalf("row %d has %d alarms, and counts %d", row, n, count)
		}
	}
	for k, a := range p.w.alarms {
		list, ok := p.w.links.On(k)
		if !ok && a != (alarm{}) {
			t.Fatalf("of %d, which isn't set, %v is kept", k, a)
		}
		if row := p.w.rowOf(a.at); ok && list != listOf(row, digit(row, a.at)) {
			t.Fatalf("at %d: %d, for %d, stands in the list %d", p.w.now, k, a.at, list)
		}
	}
}

// Ways: an alarm stands in the row of the highest digit in which its time is unlike now, by that digit; one that is due
// stands in the first row.
func TestRows(t *testing.T) {
	base := uint64(1)
	for row := 1; row < rows; row++ {
		for value := uint64(1); value < 64 && value <= greatest/base; value++ {
			w := New(3, 0)
			w.Set(0, value*base, 0)
			w.Set(1, value*base+(base-1), 0)
			w.Set(2, 0, 0)
			for k, want := range []int{row*64 + int(value), row*64 + int(value), 0} {
				if list, ok := w.links.On(k); list != want || !ok {
					t.Fatalf("row %d, digit %d: %d stands in the list %d; want %d", row, value, k, list, want)
				}
			}
			if w.counts[row] != 2 || w.counts[0] != 1 {
				t.Fatalf("row %d, digit %d: the rows have %v", row, value, w.counts)
			}
		}
		base *= 64
	}
}

// wild are numbers of alarms that there are none of.
func wild() []int {
	return []int{math.MinInt, math.MinInt + 1, -4097, -4096, -1, 4096, 4097, 1 << 32, math.MaxInt - 1, math.MaxInt}
}

// edges are times on both sides of each power of 2, with 0 and the greatest one.
func edges() []uint64 {
	list := []uint64{0}
	for i := range 64 {
		power := uint64(1) << i
		list = append(list, power-1, power, power+1)
	}
	list = append(list, greatest-2, greatest-1, greatest)
	slices.Sort(list)
	return slices.Compact(list)
}

// starts are times to begin at: 0, some, ahead of, at and behind where rows turn, and near the greatest.
func starts() []uint64 {
	return []uint64{0, 1, 60, 63, 64, 100, 4095, 4096, 4097, 1<<18 - 1, 1<<24 - 70, 1<<36 - 1, 1 << 60, 1<<63 - 1, 1 << 63,
		greatest - 5000, greatest - 64, greatest - 1, greatest}
}

// around are times that are near a time, and as far from it as the edges are, ahead and behind.
func around(now uint64) []uint64 {
	var list []uint64
	for _, gap := range edges() {
		if gap <= greatest-now {
			list = append(list, now+gap)
		}
		if gap <= now {
			list = append(list, now-gap)
		}
	}
	slices.Sort(list)
	return slices.Compact(list)
}

// steps is a fixed run of numbers, to make calls of.
func steps(count int) []uint64 {
	list := make([]uint64, 0, count)
	x := uint64(0xA0761D6478BD642F)
	for range count {
		x ^= x << 13
		x ^= x >> 7
		x ^= x << 17
		list = append(list, x>>3)
	}
	return list
}

// pick is one of some times.
func pick(list []uint64, n uint64) uint64 { return list[n%uint64(len(list))] }

// The chapter's example, and the document's.
func TestExample(t *testing.T) {
	w := New(3, 100)
	w.Set(0, 5000, 2)
	w.Set(1, 5000, 1)
	w.Set(2, 50, 0)
	if got := w.To(4999); !slices.Equal(got, []int{2}) {
		t.Errorf("To(4999) = %v", got)
	}
	if got := w.To(5000); !slices.Equal(got, []int{1, 0}) {
		t.Errorf("To(5000) = %v", got)
	}
	w = New(2, 100)
	w.Set(0, 5000, 0)
	w.Set(1, 50, 1)
	if got := w.To(100); !slices.Equal(got, []int{1}) {
		t.Errorf("To(100) = %v", got)
	}
	if got := w.To(5000); !slices.Equal(got, []int{0}) {
		t.Errorf("To(5000) = %v", got)
	}
}

// P7.1, P1, P4: below 0 alarms count as 0, above 4096 as that; none of them is set.
func TestNewOfAllSizes(t *testing.T) {
	for _, size := range []int{math.MinInt, -4096, -1, 0, 1, 2, 64, 4095, 4096, 4097, 1 << 40, math.MaxInt} {
		w, last := New(size, 9), held(size)-1
		if w.Len() != 0 || w.Now() != 9 {
			t.Fatalf("New(%d): Len, Now = %d, %d", size, w.Len(), w.Now())
		}
		if _, ok := w.First(); ok || len(w.To(greatest)) != 0 {
			t.Fatalf("New(%d): an alarm is set", size)
		}
		if w.Set(last+1, 1, 1) || w.Unset(last+1) || w.Set(-1, 1, 1) || w.Len() != 0 {
			t.Fatalf("New(%d): there is an alarm %d, or -1", size, last+1)
		}
		if got := w.Set(last, 1, 1); got != (last >= 0) {
			t.Fatalf("New(%d): Set(%d) = %v", size, last, got)
		}
		if got := w.To(0); last >= 0 && !slices.Equal(got, []int{last}) {
			t.Fatalf("New(%d): To = %v", size, got)
		}
	}
}

// P7.1: a wheel begins at any time, with none set.
func TestFirstTime(t *testing.T) {
	for _, now := range append(edges(), starts()...) {
		p := newPair(3, now)
		p.same(t)
		p.to(t, now)
		p.same(t)
		p.to(t, 0)
		p.same(t)
	}
}

// P7.1, P1, P4: alarms that there are none of are refused, and turn nothing.
func TestNoSuchAlarm(t *testing.T) {
	for _, size := range []int{0, 1, 3, 64, 4096} {
		p := newPair(size, 100)
		p.set(t, 0, 150, 7)
		p.set(t, size-1, 90, 7)
		for _, k := range append(wild(), size, size+1, 2*size) {
			p.set(t, k, 50, 1)
			p.set(t, k, 100, 1)
			p.set(t, k, greatest, 1)
			p.unset(t, k)
			p.sameAt(t, k)
		}
		p.same(t)
		p.to(t, 200)
		p.same(t)
	}
}

// P7.1, P4: an alarm that is set isn't set again, for no time, and stays as it was; one that isn't set isn't let be.
func TestSetAlready(t *testing.T) {
	times := []uint64{0, 99, 100, 101, 163, 164, 5000, 1 << 40, greatest}
	for _, was := range times {
		for _, at := range times {
			p := newPair(2, 100)
			p.unset(t, 0)
			p.set(t, 0, was, 5)
			p.set(t, 0, at, 4)
			p.same(t)
			p.to(t, at)
			p.same(t)
			p.to(t, greatest)
			p.unset(t, 0)
			p.set(t, 0, at, 4)
			p.same(t)
			p.to(t, greatest)
			p.same(t)
		}
	}
}

// P7.1: an alarm that was let be isn't told, and is set again, for a time in the same row or another one.
func TestUnsetAndSetAgain(t *testing.T) {
	for _, now := range starts() {
		times := around(now)
		for i, at := range times {
			p := newPair(3, now)
			p.set(t, 0, at, 1)
			p.set(t, 1, at, 0)
			p.set(t, 2, at, 0)
			p.unset(t, 1)
			p.unset(t, 1)
			p.same(t)
			p.set(t, 1, times[(i*7+3)%len(times)], 2)
			p.unset(t, 0)
			p.same(t)
			p.to(t, at)
			p.same(t)
			p.unset(t, 2)
			p.to(t, greatest)
			p.same(t)
		}
	}
}

// P7.2: an alarm for any time isn't told ahead of it, and is told once, at the first step that comes to it.
func TestEachTimeAlone(t *testing.T) {
	for _, now := range append(edges(), starts()...) {
		for _, at := range append(edges(), around(now)...) {
			p := newPair(1, now)
			p.set(t, 0, at, at)
			p.sameFirst(t)
			if at > 0 {
				p.to(t, at-1)
				p.sameFirst(t)
			}
			p.to(t, at)
			p.to(t, at)
			p.sameAt(t, 0)
			p.sameFirst(t)
			p.to(t, greatest)
		}
	}
}

// P7.2: or at the first step past it, wherever the steps ahead of that came to.
func TestEachTimePassed(t *testing.T) {
	stops := []uint64{1, 62, 63, 64, 65, 4095, 4096, 1<<18 + 5, 1 << 30, 1<<54 - 1, 1 << 60, 1<<63 + 1, greatest - 1}
	for _, at := range edges() {
		for _, stop := range stops {
			p := newPair(1, 0)
			p.set(t, 0, at, 0)
			p.to(t, stop)
			p.sameFirst(t)
			p.to(t, stop+1)
			p.to(t, max(stop+1, at-min(at, 1)))
			p.sameFirst(t)
			p.to(t, max(stop+1, at))
			p.to(t, greatest)
			p.same(t)
		}
	}
}

// P7.1, P7.2: alarms for all times around one, at once, each told at its own time.
func TestAllTimesTogether(t *testing.T) {
	for _, now := range starts() {
		times := around(now)
		p := newPair(len(times), now)
		for i, at := range times {
			p.set(t, len(times)-1-i, at, uint64(i%3))
		}
		p.same(t)
		for _, at := range times {
			p.to(t, at-min(at, 1))
			p.to(t, at)
			p.sameFirst(t)
		}
		p.same(t)
		if p.w.Len() != 0 {
			t.Fatalf("from %d on: %d are left", now, p.w.Len())
		}
	}
}

// P7.1, P5: those of one time come by rising turns, those of one turn by rising numbers, however they were set.
func TestTurns(t *testing.T) {
	turns := []uint64{0, 1, 1, 2, 63, 64, 1 << 32, 1 << 63, greatest - 1, greatest, greatest, 0}
	for _, at := range []uint64{0, 99, 100, 101, 163, 4196, 1 << 50, greatest} {
		for by := range len(turns) {
			p := newPair(len(turns), 100)
			for i := range turns {
				k := (i*5 + by) % len(turns)
				p.set(t, k, at, turns[(k*7+by)%len(turns)])
			}
			p.same(t)
			p.to(t, at-min(at, 1))
			p.to(t, at)
			p.same(t)
		}
	}
}

// P7.1: a time goes ahead of a turn, a turn ahead of a number.
func TestOrder(t *testing.T) {
	w := New(6, 10)
	for k, a := range []setting{{at: 20, turn: 0}, {at: 5, turn: 9}, {at: 5, turn: 8}, {at: 20, turn: 0}, {at: 19, turn: greatest}, {at: 0, turn: 50}} {
		w.Set(k, a.at, a.turn)
	}
	if got := w.To(20); !slices.Equal(got, []int{5, 2, 1, 4, 0, 3}) {
		t.Errorf("To(20) = %v", got)
	}
}

// P7.1: those of one time, set from times near and far, stand side by side when it comes.
func TestOneTimeFromManyTimes(t *testing.T) {
	for _, at := range []uint64{70, 4096, 1<<18 + 77, 1 << 40, greatest} {
		p := newPair(130, 0)
		k := 0
		for _, gap := range slices.Backward(edges()) {
			if gap > at || k >= 129 {
				continue
			}
			p.to(t, at-gap)
			p.set(t, k, at, uint64(k*37%11))
			p.sameFirst(t)
			k++
		}
		p.set(t, k, at, 0)
		p.same(t)
		p.to(t, at)
		p.same(t)
	}
}

// P7.1: First of none, one and several, as they are set, let be and told.
func TestFirst(t *testing.T) {
	for _, now := range starts() {
		p := newPair(4, now)
		p.sameFirst(t)
		times := around(now)
		for i, at := range times {
			p.set(t, 0, at, 3)
			p.sameFirst(t)
			p.set(t, 1, at, 2)
			p.sameFirst(t)
			p.set(t, 2, times[i*i%len(times)], 1)
			p.sameFirst(t)
			p.set(t, 3, times[(i*31+7)%len(times)], 0)
			p.sameFirst(t)
			for _, k := range []int{2, 0, 3, 1} {
				p.unset(t, k)
				p.sameFirst(t)
			}
		}
	}
}

// P7.1: the least time of those that stand in one bucket, whichever was set first.
func TestFirstOfOneBucket(t *testing.T) {
	for _, times := range [][]uint64{{8, 4, 6}, {100, 99, 127}, {5001, 4999, 5000}, {1<<40 + 9, 1<<40 + 2, 1<<40 + 3}, {greatest, greatest - 1, greatest - 2}} {
		for by := range 3 {
			p := newPair(3, 10)
			for i := range times {
				p.set(t, i, times[(i+by)%3], uint64(i))
				p.sameFirst(t)
			}
			p.unset(t, 1)
			p.sameFirst(t)
		}
	}
}

// P7.1: to a time that is no later, time stays; what was set for past times, and for the time itself, is told.
func TestToNoLater(t *testing.T) {
	for _, now := range starts() {
		for _, to := range []uint64{0, now / 2, now - min(now, 64), now - min(now, 1), now} {
			p := newPair(5, now)
			p.to(t, to)
			p.set(t, 0, now, 1)
			p.set(t, 1, now, 0)
			p.set(t, 2, to, 5)
			p.set(t, 3, 0, 9)
			p.set(t, 4, now+min(greatest-now, 1), 0)
			p.same(t)
			p.to(t, to)
			p.same(t)
			p.to(t, to)
			p.to(t, greatest)
			p.same(t)
		}
	}
}

// P7.2: at the greatest time time stays; alarms for any time are told at the next step, whichever.
func TestAtTheEnd(t *testing.T) {
	p := newPair(4, 7)
	p.set(t, 0, greatest, 1)
	p.set(t, 1, greatest, 0)
	p.set(t, 2, greatest-1, 9)
	p.to(t, greatest-2)
	p.to(t, greatest-1)
	p.same(t)
	p.to(t, greatest)
	p.same(t)
	for _, to := range []uint64{0, greatest - 1, greatest} {
		for k, at := range []uint64{greatest, 0, greatest - 1, 7} {
			p.set(t, k, at, 2)
		}
		p.same(t)
		p.to(t, to)
		p.same(t)
	}
}

// P7.2: tick by tick, over where one, two and more rows turn, with alarms that are set on the way.
func TestTickByTick(t *testing.T) {
	for _, now := range []uint64{0, 1, 63, 4000, 1<<18 - 100, 1<<24 - 300, 1<<36 - 64, 1<<60 - 70, 1<<63 - 150, greatest - 4500} {
		p := newPair(90, now)
		for k := range 40 {
			p.set(t, k, now+min(uint64(k*k*k), greatest-now), 1)
		}
		for i, step := range steps(4600) {
			p.to(t, p.m.now+min(1, greatest-p.m.now))
			k := 40 + i%50
			p.set(t, k, p.m.now+min(step%200, greatest-p.m.now), step>>10%4)
			if i%64 == 0 {
				p.same(t)
			}
		}
		p.to(t, greatest)
		p.same(t)
	}
}

// P7.2: in however many steps one goes on to a time, the same alarms are told by then, in the same order, each once.
func TestHoweverManySteps(t *testing.T) {
	for _, now := range starts() {
		times := around(now)
		fill := func() *Wheel {
			w := New(2*len(times), now)
			for i, at := range times {
				w.Set(i, at, uint64(i%4))
				w.Set(2*len(times)-1-i, at, uint64(i%3))
			}
			return w
		}
		for _, end := range []uint64{now, now + min(5000, greatest-now), now + (greatest-now)/3, greatest} {
			atOnce := fill()
			want := atOnce.To(end)
			left := atOnce.To(greatest)
			for count := 1; count < 300; count += 37 {
				w := fill()
				got := inSteps(w, now, end, times, count)
				if !slices.Equal(got, want) {
					t.Fatalf("from %d to %d in %d steps: %v; want %v", now, end, count, got, want)
				}
				if got := w.To(greatest); !slices.Equal(got, left) {
					t.Fatalf("from %d to %d in %d steps: %v are left; want %v", now, end, count, got, left)
				}
			}
		}
	}
}

// inSteps goes on to an end by so many stops on the way, and is all that is told.
func inSteps(w *Wheel, now, end uint64, times []uint64, count int) []int {
	var stops []uint64
	for _, step := range steps(count) {
		stop := pick(times, step)
		if step>>20%3 == 0 {
			stop = now + step%(max(end-now, 1))
		}
		if stop > now && stop < end {
			stops = append(stops, stop)
		}
	}
	slices.Sort(stops)
	var told []int
	for _, stop := range append(stops, end) {
		told = append(told, w.To(stop)...)
	}
	return told
}

// P7.2: the same, for every way to cut a short run of ticks, over a turn of two rows.
func TestEveryCut(t *testing.T) {
	const ticks = 10
	now := uint64(4096 - 5)
	for cut := range 1 << ticks {
		p := newPair(14, now)
		for k := range 14 {
			p.set(t, k, now+uint64(k*k%13)-1, uint64(k%2))
		}
		for i := range uint64(ticks) {
			if cut>>i&1 == 1 {
				p.to(t, now+i+1)
			}
		}
		p.to(t, now+ticks)
		p.same(t)
	}
}

// call makes one call of a step, near and far, of alarms that there are and others.
func (p pair) call(t *testing.T, step uint64) {
	t.Helper()
	k := int(step>>8%uint64(len(p.m.alarms)+4)) - 2
	switch step % 8 {
	case 0, 1, 2, 3:
		p.set(t, k, pick(around(p.m.now), step>>24), step>>40%3)
	case 4:
		p.unset(t, k)
	case 5:
		p.to(t, p.m.now+min(step>>24%130, greatest-p.m.now))
	case 6:
		at, ok := p.m.first()
		if ok {
			p.to(t, at-min(at, step>>24%2))
		}
	default:
		p.sameFirst(t)
	}
	p.sameAt(t, k)
}

// P7.1: long mixed orders of calls, from many times on, and far on now and then.
func TestMixedOrder(t *testing.T) {
	for _, size := range []int{0, 1, 2, 7, 40} {
		for _, now := range starts() {
			p := newPair(size, now)
			for i, step := range steps(1500) {
				p.call(t, step)
				if i%50 == 0 {
					p.same(t)
				}
				if i%400 == 399 {
					p.to(t, pick(around(p.m.now), step>>30))
				}
			}
			p.same(t)
			p.to(t, greatest)
			p.same(t)
		}
	}
}

// P7.1: every order of five calls, of two alarms, beside where a row turns.
func TestEveryShortOrder(t *testing.T) {
	const now, length = 62, 5
	calls := []func(p pair){
		func(p pair) { p.set(t, 0, now-1, 1) },
		func(p pair) { p.set(t, 0, now+2, 1) },
		func(p pair) { p.set(t, 0, now+70, 0) },
		func(p pair) { p.set(t, 1, now+1, 0) },
		func(p pair) { p.set(t, 1, now+2, 1) },
		func(p pair) { p.unset(t, 0) },
		func(p pair) { p.unset(t, 1) },
		func(p pair) { p.to(t, now) },
		func(p pair) { p.to(t, now+2) },
		func(p pair) { p.to(t, now+70) },
	}
	orders := 1
	for range length {
		orders *= len(calls)
	}
	for order := range orders {
		p := newPair(2, now)
		for rest, i := order, 0; i < length; rest, i = rest/len(calls), i+1 {
			calls[rest%len(calls)](p)
		}
		p.sameFirst(t)
		if p.w.Len() != p.m.len() || p.w.Now() != p.m.now {
			t.Fatalf("order %d: Len, Now = %d, %d", order, p.w.Len(), p.w.Now())
		}
		p.to(t, greatest)
	}
}

// P7.1, P4: all alarms that there may be, of one time, and of as many times, are told; none is more.
func TestFull(t *testing.T) {
	for _, gap := range []uint64{0, 1, 63, 1 << 20, 1 << 50} {
		w := New(5000, 77)
		want := make([]int, 0, 4096)
		for i := range 4096 {
			k := 4095 - i*5%4096
			if !w.Set(k, 80+gap*uint64(k), 1) || w.Set(k, 80, 1) {
				t.Fatalf("Set(%d)", k)
			}
			want = append(want, i)
		}
		if w.Set(4096, 80, 1) || w.Len() != 4096 {
			t.Fatalf("Len = %d", w.Len())
		}
		if at, ok := w.First(); at != 80 || !ok {
			t.Fatalf("First = %d, %v", at, ok)
		}
		if got := w.To(79); len(got) != 0 {
			t.Fatalf("To(79) = %v", got)
		}
		got := append(w.To(80), w.To(greatest)...)
		if !slices.Equal(got, want) || w.Len() != 0 {
			t.Fatalf("gap %d: %d are told, %d are left", gap, len(got), w.Len())
		}
	}
}

// Rules: what To answers is new memory, spare room too, and is the caller's to write over.
func TestToIsNewMemory(t *testing.T) {
	p := newPair(6, 0)
	for range 3 {
		for k := range 5 {
			p.set(t, k, p.m.now+uint64(k%3*70), 0)
		}
		to := p.m.now + 70
		p.m.to(to)
		told := p.w.To(to)
		kept := slices.Clone(told)
		p.to(t, to+1)
		if !slices.Equal(told, kept) {
			t.Fatalf("an answer was changed later: %v; it was %v", told, kept)
		}
		told = told[:cap(told)]
		for i := range told {
			told[i] = 5
		}
		p.same(t)
		p.to(t, to+200)
		p.same(t)
	}
}

// P2, P3: what is done in one wheel makes no difference in another.
func TestWheelsAreApart(t *testing.T) {
	a, b := newPair(8, 100), newPair(8, 100)
	b.set(t, 3, 120, 0)
	for _, step := range steps(400) {
		a.call(t, step)
	}
	a.same(t)
	b.same(t)
	b.to(t, 120)
	b.same(t)
}

// P2: the same calls are answered the same.
func TestSameAgain(t *testing.T) {
	run := func() []int {
		w := New(30, 1000)
		var told []int
		for _, step := range steps(600) {
			w.Set(int(step%30), w.Now()+step>>10%5000, step>>30%2)
			told = append(told, w.To(w.Now()+step>>40%300)...)
		}
		return told
	}
	want := run()
	for range 5 {
		if got := run(); !slices.Equal(got, want) {
			t.Fatal("the same calls are answered otherwise")
		}
	}
}
