package queue

import (
	"fmt"
	"math"
	"slices"
	"testing"
)

// model is a queue as the document's words have it: a list, gone through from its beginning.
type model struct {
	timers, devs, most int
	list               []Thing
}

func newModel(timers, devs, most int) *model {
	return &model{timers: max(timers, 0), devs: max(devs, 0), most: max(most, 0)}
}

func (m *model) is(t Thing) bool {
	for k := range m.timers {
		if t == timer(k) {
			return true
		}
	}
	for k := range m.devs {
		if t == dev(k) {
			return true
		}
	}
	return false
}

func (m *model) waiting() int {
	count := 0
	for _, t := range m.list {
		if t.Kind == 2 {
			count++
		}
	}
	return count
}

func (m *model) has(t Thing) bool { return slices.Contains(m.list, t) }

func (m *model) push(t Thing) bool {
	if !m.is(t) || m.has(t) {
		return false
	}
	if t.Kind == 2 && m.waiting() == m.most {
		return false
	}
	m.list = append(slices.Clone(m.list), t)
	return true
}

func (m *model) drop(t Thing) bool {
	was := len(m.list)
	m.list = slices.DeleteFunc(slices.Clone(m.list), func(other Thing) bool { return other == t })
	return len(m.list) < was
}

func (m *model) pop() (Thing, bool) {
	if len(m.list) == 0 {
		return Thing{}, false
	}
	first := m.list[0]
	m.list = slices.Clone(m.list[1:])
	return first, true
}

func timer(k int) Thing { return Thing{Kind: 1, Index: k} }

func dev(k int) Thing { return Thing{Kind: 2, Index: k} }

// pair is a queue, and the model of which all its answers are asked.
type pair struct {
	q *Queue
	m *model
}

func newPair(timers, devs, most int) pair {
	return pair{q: New(timers, devs, most), m: newModel(timers, devs, most)}
}

func (p pair) push(t *testing.T, x Thing) {
	t.Helper()
	was := p.m.list
	want := p.m.push(x)
	if got := p.q.Push(x); got != want {
		t.Fatalf("of %v: Push(%v) = %v; want %v", was, x, got, want)
	}
}

func (p pair) drop(t *testing.T, x Thing) {
	t.Helper()
	was := p.m.list
	want := p.m.drop(x)
	if got := p.q.Drop(x); got != want {
		t.Fatalf("of %v: Drop(%v) = %v; want %v", was, x, got, want)
	}
}

func (p pair) pop(t *testing.T) {
	t.Helper()
	was := p.m.list
	want, is := p.m.pop()
	if got, ok := p.q.Pop(); got != want || ok != is {
		t.Fatalf("of %v: Pop = %v, %v; want %v, %v", was, got, ok, want, is)
	}
}

func (p pair) has(t *testing.T, x Thing) {
	t.Helper()
	if got, want := p.q.Has(x), p.m.has(x); got != want {
		t.Fatalf("of %v: Has(%v) = %v; want %v", p.m.list, x, got, want)
	}
}

// same holds all that is to be seen of the queue against the model.
func (p pair) same(t *testing.T) {
	t.Helper()
	p.sameList(t)
	for k := -2; k < max(p.m.timers, p.m.devs)+2; k++ {
		for kind := -1; kind < 5; kind++ {
			p.has(t, Thing{Kind: kind, Index: k})
		}
	}
}

// sameList also holds P12.2: no more things wait than there are timers, and than devices may.
func (p pair) sameList(t *testing.T) {
	t.Helper()
	all := p.q.All()
	if !slices.Equal(all, p.m.list) {
		t.Fatalf("All = %v; want %v", all, p.m.list)
	}
	if p.q.Len() != len(p.m.list) || p.q.Devs() != p.m.waiting() {
		t.Fatalf("of %v: Len, Devs = %d, %d", p.m.list, p.q.Len(), p.q.Devs())
	}
	if devs := p.q.Devs(); devs > p.m.most || devs > p.m.devs || p.q.Len()-devs > p.m.timers {
		t.Fatalf("of %d timers and %d devices, of which %d may wait: %v", p.m.timers, p.m.devs, p.m.most, all)
	}
}

// empty takes all out, one by one, and one more.
func (p pair) empty(t *testing.T) {
	t.Helper()
	for range len(p.m.list) + 1 {
		p.pop(t)
		p.sameList(t)
	}
}

// fill puts all things in that go in: timers and devices in turn, from the last ones down.
func (p pair) fill(t *testing.T) {
	t.Helper()
	for k := max(p.m.timers, p.m.devs); k >= -1; k-- {
		p.push(t, timer(k))
		p.push(t, dev(k))
	}
}

// wild are numbers that no kind and no thing has.
func wild() []int {
	return []int{
		math.MinInt, math.MinInt + 1, math.MinInt + 2, math.MinInt32, -1 << 32, -301, -300, -2, -1, 301, 600, 4096,
		1 << 32, 1<<32 + 1, 1<<32 + 2, math.MaxInt32, math.MaxInt - 2, math.MaxInt - 1, math.MaxInt,
	}
}

// steps is a fixed run of numbers, to make calls of.
func steps(count int) []uint64 {
	list := make([]uint64, 0, count)
	x := uint64(0x9E3779B97F4A7C15)
	for range count {
		x ^= x << 13
		x ^= x >> 7
		x ^= x << 17
		list = append(list, x>>3)
	}
	return list
}

// P12.1: the document's own example.
func TestExample(t *testing.T) {
	if Timer != 1 || Dev != 2 {
		t.Errorf("Timer, Dev = %d, %d", Timer, Dev)
	}
	q := New(2, 3, 1)
	if !q.Push(Thing{Kind: Dev, Index: 2}) || q.Push(Thing{Kind: Dev, Index: 0}) || !q.Push(Thing{Kind: Timer, Index: 1}) {
		t.Error("Push")
	}
	if all := q.All(); !slices.Equal(all, []Thing{{Kind: 2, Index: 2}, {Kind: 1, Index: 1}}) {
		t.Errorf("All = %v", all)
	}
}

// P12.1, P12.2, P4: sizes of every kind, each below 0 counts as 0: nothing waits, then all that may, then nothing.
func TestSizes(t *testing.T) {
	sizes := []int{math.MinInt, -300, -2, -1, 0, 1, 2, 3, 63, 64, 65, 256, 299, 300}
	mosts := append([]int{301, 599, 600, 601, math.MaxInt - 1, math.MaxInt}, sizes...)
	for _, timers := range sizes {
		for _, devs := range sizes {
			if timers > 3 && devs > 3 && timers != devs && timers+devs < 599 {
				continue
			}
			for _, most := range mosts {
				p := newPair(timers, devs, most)
				p.sameList(t)
				p.pop(t)
				p.fill(t)
				p.sameList(t)
				if want := max(timers, 0) + max(min(devs, most), 0); p.q.Len() != want {
					t.Fatalf("New(%d, %d, %d): %d things wait; want %d", timers, devs, most, p.q.Len(), want)
				}
			}
		}
	}
}

// P12.1, P12.2: 300 timers and as many devices wait, and go, in the order in which they came, or from within.
func TestThreeHundred(t *testing.T) {
	for _, most := range []int{0, 1, 150, 299, 300, 301, math.MaxInt} {
		p := newPair(300, 300, most)
		p.fill(t)
		p.same(t)
		p.fill(t)
		p.same(t)
		for k := 1; k < 300; k += 3 {
			p.drop(t, dev(k))
			p.drop(t, timer(300-k))
		}
		p.same(t)
		p.fill(t)
		p.same(t)
		p.empty(t)
		p.same(t)
	}
}

// P1: nothing is said of more than 300, but that every call ends, and none panics.
func TestMoreThanSaid(t *testing.T) {
	sizes := []int{300, 301, 2048, 2049, 4096, 4097, 1 << 32, math.MaxInt - 1, math.MaxInt}
	for _, timers := range sizes {
		for _, devs := range sizes {
			q := New(timers, devs, math.MaxInt)
			for _, k := range append(wild(), 0, timers-1, timers, devs-1, devs) {
				for _, kind := range append(wild(), 0, Timer, Dev, 3) {
					x := Thing{Kind: kind, Index: k}
					q.Push(x)
					q.Has(x)
					q.Drop(x)
					q.Push(x)
				}
			}
			if !q.Has(timer(0)) || !q.Has(dev(0)) || q.Len() != len(q.All()) {
				t.Fatalf("New(%d, %d): %v", timers, devs, q.All())
			}
			for range q.Len() {
				q.Pop()
			}
			if x, ok := q.Pop(); ok || x != (Thing{}) || q.Len() != 0 || q.Devs() != 0 {
				t.Fatalf("New(%d, %d): Pop = %v, %v", timers, devs, x, ok)
			}
		}
	}
}

// P12.1, P1, P4: there is no thing of another kind, of a number below 0 or past the last one; it turns nothing.
func TestNoSuchThing(t *testing.T) {
	for _, size := range [][3]int{{0, 0, 0}, {0, 3, 3}, {3, 0, 3}, {3, 3, 3}, {3, 3, 1}, {2, 5, 9}, {5, 2, 1}, {300, 300, 300}} {
		p := newPair(size[0], size[1], size[2])
		for range 2 {
			for _, k := range append(wild(), 0, 1, 2, size[0], size[1], size[0]+size[1]) {
				for _, kind := range append(wild(), 0, 3, 4) {
					p.refuse(t, Thing{Kind: kind, Index: k})
				}
			}
			for _, k := range append(wild(), size[0], size[0]+1, size[0]+size[1], size[0]+size[1]+1, math.MaxInt-size[0]) {
				if k < 0 || k >= size[0] {
					p.refuse(t, timer(k))
				}
			}
			for _, k := range append(wild(), -size[0], size[1], size[1]+1, size[0]+size[1], math.MaxInt-size[0], math.MinInt+size[0]) {
				if k < 0 || k >= size[1] {
					p.refuse(t, dev(k))
				}
			}
			p.same(t)
			p.fill(t)
		}
	}
}

// refuse calls all calls with a thing that there isn't.
func (p pair) refuse(t *testing.T, x Thing) {
	t.Helper()
	if p.q.Push(x) || p.q.Has(x) || p.q.Drop(x) {
		t.Fatalf("of %d timers and %d devices: there is a thing %v", p.m.timers, p.m.devs, x)
	}
	p.sameList(t)
}

// P12.1, P4: what waits already stays where it stands; gone, it comes to the end.
func TestTwice(t *testing.T) {
	for _, x := range []Thing{timer(0), timer(1), timer(2), dev(0), dev(1), dev(2)} {
		p := newPair(3, 3, 3)
		p.fill(t)
		p.push(t, x)
		p.push(t, x)
		p.same(t)
		p.drop(t, x)
		p.same(t)
		p.push(t, x)
		p.push(t, x)
		p.same(t)
		if all := p.q.All(); len(all) != 6 || all[5] != x {
			t.Fatalf("%v isn't at the end of %v", x, all)
		}
		p.empty(t)
		p.push(t, x)
		p.push(t, x)
		p.same(t)
	}
}

// P12.2, P12.1, P4: where most devices wait no other one goes in, but timers do; where one has gone, one goes in.
func TestMostDevices(t *testing.T) {
	for most := range 7 {
		p := newPair(2, 5, most)
		p.fillDevs(t)
		p.push(t, timer(1))
		p.drop(t, timer(1))
		p.fillDevs(t)
		p.push(t, timer(0))
		for k := range 5 {
			p.drop(t, dev(k))
			p.drop(t, dev(k))
			p.same(t)
			p.push(t, dev((k+3)%5))
			p.fillDevs(t)
		}
		for range 5 {
			p.pop(t)
			p.fillDevs(t)
		}
	}
}

func (p pair) fillDevs(t *testing.T) {
	t.Helper()
	for k := range p.m.devs {
		p.push(t, dev(k))
		p.same(t)
	}
}

// P12.1: the first, the last and each one between is taken out of queues of all lengths; the others keep their order.
func TestDropFromEverywhere(t *testing.T) {
	things := []Thing{dev(2), timer(1), timer(0), dev(0), timer(2), dev(1)}
	for length := range len(things) + 1 {
		for _, x := range things {
			p := newPair(3, 3, 3)
			for _, other := range things[:length] {
				p.push(t, other)
			}
			p.drop(t, x)
			p.same(t)
			p.drop(t, x)
			p.same(t)
			p.push(t, x)
			p.same(t)
			p.empty(t)
		}
	}
}

// P12.1: Pop of nothing, at first and later, is no thing, and turns nothing.
func TestPopOfNothing(t *testing.T) {
	p := newPair(2, 2, 1)
	for range 3 {
		p.pop(t)
		p.pop(t)
		p.same(t)
		p.push(t, dev(1))
		p.push(t, timer(0))
		p.same(t)
		p.empty(t)
		p.push(t, timer(0))
		p.drop(t, timer(0))
		p.same(t)
	}
}

// P12.1: things come out as they went in, timers and devices mixed, in every order of six.
func TestEveryOrderOfThings(t *testing.T) {
	things := []Thing{timer(0), timer(1), timer(2), dev(0), dev(1), dev(2)}
	count := 0
	eachOrder(things, func(order []Thing) {
		count++
		p := newPair(3, 3, 3)
		for _, x := range order {
			p.push(t, x)
		}
		p.same(t)
		for _, x := range order {
			if got, ok := p.q.Pop(); got != x || !ok {
				t.Fatalf("of %v: Pop = %v, %v", order, got, ok)
			}
		}
	})
	if count != 720 {
		t.Errorf("%d orders", count)
	}
}

// eachOrder calls with the things in each order.
func eachOrder(things []Thing, call func([]Thing)) {
	var pick func(done, rest []Thing)
	pick = func(done, rest []Thing) {
		if len(rest) == 0 {
			call(done)
			return
		}
		for k, x := range rest {
			others := slices.Delete(slices.Clone(rest), k, k+1)
			pick(append(slices.Clone(done), x), others)
		}
	}
	pick(nil, things)
}

// calls are all calls of a queue of two timers and three devices, with things that there are, and some that there aren't.
func calls() []func(*testing.T, pair) {
	list := []func(*testing.T, pair){func(t *testing.T, p pair) { p.pop(t) }}
	for _, x := range []Thing{timer(0), timer(1), dev(0), dev(1), dev(2), timer(2), dev(3), timer(-1), dev(-1), {}, {Kind: 3}} {
		list = append(list,
			func(t *testing.T, p pair) { p.push(t, x) },
			func(t *testing.T, p pair) { p.drop(t, x) },
			func(t *testing.T, p pair) { p.has(t, x) })
	}
	return list
}

// P12.1, P12.2, P4: every call, right or wrong, in every state that a queue can be in.
func TestEveryCallInEveryState(t *testing.T) {
	for _, most := range []int{-1, 0, 1, 2, 3, 4} {
		seen := map[string]bool{"[]": true}
		states := [][]Thing{nil}
		for len(states) > 0 {
			state := states[0]
			states = states[1:]
			for _, call := range calls() {
				p := newPair(2, 3, most)
				for _, x := range state {
					p.push(t, x)
				}
				call(t, p)
				p.same(t)
				if name := fmt.Sprint(p.m.list); !seen[name] {
					seen[name] = true
					states = append(states, p.m.list)
				}
				p.empty(t)
			}
		}
		if want := orders(2, min(max(most, 0), 3)); len(seen) != want {
			t.Errorf("%d devices may wait: %d states; want %d", most, len(seen), want)
		}
	}
}

// orders is how many lists there are of some of so many timers, and of at most so many out of three devices.
func orders(timers, most int) int {
	choices := func(n, k int) int { // lists of k out of n
		count := 1
		for i := range k {
			count *= n - i
		}
		return count
	}
	sum := 0
	for a := range timers + 1 {
		for b := range most + 1 {
			sum += choices(timers, a) * choices(3, b) * choices(a+b, a) / choices(a, a)
		}
	}
	return sum
}

// P12.1: every order of five out of ten calls, with all that is to be seen after each.
func TestEveryShortOrder(t *testing.T) {
	chosen := []func(*testing.T, pair){
		func(t *testing.T, p pair) { p.push(t, timer(0)) },
		func(t *testing.T, p pair) { p.push(t, timer(1)) },
		func(t *testing.T, p pair) { p.push(t, dev(0)) },
		func(t *testing.T, p pair) { p.push(t, dev(1)) },
		func(t *testing.T, p pair) { p.push(t, dev(2)) },
		func(t *testing.T, p pair) { p.pop(t) },
		func(t *testing.T, p pair) { p.drop(t, timer(0)) },
		func(t *testing.T, p pair) { p.drop(t, dev(0)) },
		func(t *testing.T, p pair) { p.drop(t, dev(1)) },
		func(t *testing.T, p pair) { p.push(t, Thing{Kind: Dev, Index: 3}) },
	}
	count := 1
	for range 5 {
		count *= len(chosen)
	}
	for order := range count {
		p := newPair(2, 3, 2)
		for rest, i := order, 0; i < 5; rest, i = rest/len(chosen), i+1 {
			chosen[rest%len(chosen)](t, p)
			p.sameList(t)
		}
		p.same(t)
	}
}

// P12.1, P12.2: long mixed orders of calls.
func TestMixedOrder(t *testing.T) {
	for _, size := range [][3]int{
		{0, 0, 0}, {0, 4, 2}, {4, 0, 2}, {1, 1, 1}, {3, 3, 0}, {4, 6, 3}, {6, 4, 4}, {20, 64, 16}, {256, 64, 64}, {300, 300, 150},
	} {
		p := newPair(size[0], size[1], size[2])
		for i, step := range steps(4000) {
			x := Thing{Kind: int(step>>4) % 2, Index: int(step>>8)%(max(size[0], size[1])+4) - 2}
			x.Kind++
			if step>>32%31 == 0 {
				x.Kind = int(step>>40)%7 - 2
			}
			switch {
			case step%8 < 5:
				p.push(t, x)
			case step%8 < 7:
				p.drop(t, x)
			default:
				p.pop(t)
			}
			p.has(t, x)
			p.sameList(t)
			if i%200 == 0 {
				p.same(t)
			}
		}
		p.empty(t)
		p.same(t)
	}
}

// P12.1, P4: calls that tell something turn nothing, and tell the same again.
func TestTellingTurnsNothing(t *testing.T) {
	p := newPair(3, 4, 2)
	for _, x := range []Thing{dev(3), timer(2), timer(0), dev(1)} {
		p.push(t, x)
		for range 3 {
			p.same(t)
		}
	}
	p.empty(t)
}

// Rules: what All answers is new memory, spare room too, and is the caller's to write over.
func TestAllIsNewMemory(t *testing.T) {
	p := newPair(3, 3, 2)
	p.fill(t)
	for range 2 {
		all := p.q.All()
		all = all[:cap(all)]
		for i := range all {
			all[i] = Thing{Kind: 7, Index: 7}
		}
		p.same(t)
	}
	kept := p.q.All()
	want := p.m.list
	p.drop(t, dev(2))
	p.pop(t)
	p.push(t, dev(0))
	p.same(t)
	if !slices.Equal(kept, want) {
		t.Errorf("an answer was changed later: %v; want %v", kept, want)
	}
}

// P2, P3: what is done with one queue makes no difference in another; the same calls are answered the same way.
func TestQueuesAreApart(t *testing.T) {
	a, b, c := newPair(4, 4, 2), newPair(4, 4, 2), newPair(4, 4, 2)
	b.push(t, dev(2))
	b.push(t, timer(3))
	for _, step := range steps(500) {
		x := Thing{Kind: int(step>>4)%2 + 1, Index: int(step>>8) % 4}
		for _, p := range []pair{a, c} {
			switch step % 4 {
			case 0, 1:
				p.push(t, x)
			case 2:
				p.drop(t, x)
			default:
				p.pop(t)
			}
		}
		a.same(t)
		b.same(t)
		c.same(t)
	}
}
