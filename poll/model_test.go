package poll

import (
	"math"
	"slices"
	"testing"

	"nightjar/gate"
	"nightjar/queue"
)

// size is how much there is of everything: devices and room for notes of a poll, and of its queue timers, devices, and
// how many of them may wait.
type size struct{ devs, notes, timers, queued, most int }

// sizeOf is a poll's size over a queue that has just its devices, and one timer.
func sizeOf(devs, notes, most int) size {
	return size{devs: devs, notes: notes, timers: 1, queued: devs, most: most}
}

// model is a poll and its queue as the document's words have them: lists, gone through from their beginnings. What a
// gate does is gate's own affair.
type model struct {
	size
	gates map[int]gate.Gate
	notes []Note
	ready []queue.Thing
	first int
}

func newModel(s size) *model {
	s.devs = max(0, min(s.devs, 64))
	s.notes = max(0, min(s.notes, 64))
	m := &model{size: s, gates: map[int]gate.Gate{}}
	for dev := range s.devs {
		m.gates[dev] = gate.Gate{}
	}
	return m
}

// with lets a device's gate do something; it does nothing, if there is no such device.
func (m *model) with(dev int, do func(*gate.Gate)) {
	if g, ok := m.gates[dev]; ok {
		do(&g)
		m.gates[dev] = g
	}
}

func (m *model) look(dev int) (look gate.Look, ok bool) {
	m.with(dev, func(g *gate.Gate) { look, ok = g.Look(), true })
	return look, ok
}

func (m *model) opened() int {
	count := 0
	for _, g := range m.gates {
		if g.Look().Open {
			count++
		}
	}
	return count
}

func (m *model) open(dev int) (ok bool) {
	m.with(dev, func(g *gate.Gate) { ok = g.Open() })
	return ok
}

func (m *model) close(dev int) (ok bool) {
	m.with(dev, func(g *gate.Gate) { ok = g.Close() })
	if ok {
		m.leave(dev)
		var others []Note
		for _, n := range m.notes {
			if n.Dev != dev {
				others = append(others, n)
			}
		}
		m.notes = others
	}
	return ok
}

func (m *model) post(dev, mask int) bool {
	look, _ := m.look(dev)
	came := 0
	for _, bit := range []int{1, 2, 4} {
		if mask&bit != 0 {
			came += bit
		}
	}
	switch {
	case !look.Open || came == 0:
		return false
	case len(m.notes) < m.size.notes:
		m.notes = append(slices.Clone(m.notes), Note{Dev: dev, Mask: came})
	default:
		m.with(dev, func(g *gate.Gate) { g.Keep(came) })
	}
	return true
}

func (m *model) watch(dev int, handle uint64, want, mode int) (ok bool) {
	m.with(dev, func(g *gate.Gate) { ok = g.Watch(handle, want, mode) })
	if ok {
		m.leave(dev)
	}
	return ok
}

func (m *model) unwatch(dev int) (ok bool) {
	m.with(dev, func(g *gate.Gate) { ok = g.Unwatch() })
	if ok {
		m.leave(dev)
	}
	return ok
}

func (m *model) ack(dev, mask int) (was int) {
	m.with(dev, func(g *gate.Gate) { was = g.Ack(mask) })
	return was
}

func (m *model) tell(dev int) (handle uint64, mask int) {
	m.with(dev, func(g *gate.Gate) { handle, mask = g.Tell() })
	return handle, mask
}

func (m *model) settle() {
	for _, n := range m.notes {
		m.with(n.Dev, func(g *gate.Gate) { g.Meet(n.Mask) })
	}
	m.notes = nil
	for dev := range m.devs {
		m.with(dev, func(g *gate.Gate) { g.Flush() })
	}
	var turn []int
	for dev := m.first; dev < m.devs; dev++ {
		turn = append(turn, dev)
	}
	for dev := range m.first {
		turn = append(turn, dev)
	}
	for _, dev := range turn {
		if g := m.gates[dev]; g.Wants() && m.push(device(dev)) {
			m.first = dev + 1
			if m.first == m.devs {
				m.first = 0
			}
		}
	}
}

// push, leave and pop are the queue's.
func (m *model) push(x queue.Thing) bool {
	is, devs := m.timers, 0
	if x.Kind == 2 {
		is = m.queued
	}
	for _, other := range m.ready {
		if other == x {
			return false
		}
		if other.Kind == 2 {
			devs++
		}
	}
	if x.Index >= is || x.Kind == 2 && devs >= m.most {
		return false
	}
	m.ready = append(slices.Clone(m.ready), x)
	return true
}

func (m *model) leave(dev int) {
	m.ready = slices.DeleteFunc(slices.Clone(m.ready), func(x queue.Thing) bool { return x == device(dev) })
}

func (m *model) pop() (queue.Thing, bool) {
	if len(m.ready) == 0 {
		return queue.Thing{}, false
	}
	first := m.ready[0]
	m.ready = slices.Clone(m.ready[1:])
	return first, true
}

func device(k int) queue.Thing { return queue.Thing{Kind: 2, Index: k} }

func timer(k int) queue.Thing { return queue.Thing{Kind: 1, Index: k} }

// pair is a poll and its queue, and the model of which all their answers are asked.
type pair struct {
	p *Poll
	q *queue.Queue
	m *model
}

func newPair(s size) pair {
	q := queue.New(s.timers, s.queued, s.most)
	return pair{p: New(s.devs, s.notes, q), q: q, m: newModel(s)}
}

func (p pair) open(t *testing.T, dev int) {
	t.Helper()
	want := p.m.open(dev)
	if got := p.p.Open(dev); got != want {
		t.Fatalf("Open(%d) = %v; want %v", dev, got, want)
	}
}

func (p pair) close(t *testing.T, dev int) {
	t.Helper()
	want := p.m.close(dev)
	if got := p.p.Close(dev); got != want {
		t.Fatalf("Close(%d) = %v; want %v", dev, got, want)
	}
}

func (p pair) post(t *testing.T, dev, mask int) {
	t.Helper()
	want := p.m.post(dev, mask)
	if got := p.p.Post(dev, mask); got != want {
		t.Fatalf("Post(%d, %d) = %v; want %v", dev, mask, got, want)
	}
}

func (p pair) watch(t *testing.T, dev int, handle uint64, want, mode int) {
	t.Helper()
	is := p.m.watch(dev, handle, want, mode)
	if got := p.p.Watch(dev, handle, want, mode); got != is {
		t.Fatalf("Watch(%d, %d, %d, %d) = %v; want %v", dev, handle, want, mode, got, is)
	}
}

func (p pair) unwatch(t *testing.T, dev int) {
	t.Helper()
	want := p.m.unwatch(dev)
	if got := p.p.Unwatch(dev); got != want {
		t.Fatalf("Unwatch(%d) = %v; want %v", dev, got, want)
	}
}

func (p pair) ack(t *testing.T, dev, mask int) {
	t.Helper()
	want := p.m.ack(dev, mask)
	if got := p.p.Ack(dev, mask); got != want {
		t.Fatalf("Ack(%d, %d) = %d; want %d", dev, mask, got, want)
	}
}

func (p pair) tell(t *testing.T, dev int) {
	t.Helper()
	handle, mask := p.m.tell(dev)
	if h, is := p.p.Tell(dev); h != handle || is != mask {
		t.Fatalf("Tell(%d) = %d, %d; want %d, %d", dev, h, is, handle, mask)
	}
}

func (p pair) settle() {
	p.m.settle()
	p.p.Settle()
}

// pop takes the queue's first thing out; a device tells what it has to tell.
func (p pair) pop(t *testing.T) {
	t.Helper()
	want, is := p.m.pop()
	got, ok := p.q.Pop()
	if got != want || ok != is {
		t.Fatalf("Pop = %v, %v; want %v, %v", got, ok, want, is)
	}
	if got.Kind == 2 {
		p.tell(t, got.Index)
	}
}

// due puts a timer into the queue.
func (p pair) due(t *testing.T, k int) {
	t.Helper()
	want := p.m.push(timer(k))
	if got := p.q.Push(timer(k)); got != want {
		t.Fatalf("Push of the timer %d = %v; want %v", k, got, want)
	}
}

// same holds all that is to be seen against the model, and Notes, Opened and Look against each other (P4: there is
// never more of a thing than there may be).
func (p pair) same(t *testing.T) {
	t.Helper()
	opened := 0
	for dev := -2; dev < p.m.devs+2; dev++ {
		want, is := p.m.look(dev)
		got, ok := p.p.Look(dev)
		if got != want || ok != is {
			t.Fatalf("Look(%d) = %v, %v; want %v, %v", dev, got, ok, want, is)
		}
		if got.Open {
			opened++
		}
	}
	if got := p.p.Opened(); got != p.m.opened() || got != opened {
		t.Fatalf("Opened = %d; want %d; by Look %d", got, p.m.opened(), opened)
	}
	notes := p.p.Notes()
	if !slices.Equal(notes, p.m.notes) {
		t.Fatalf("Notes = %v; want %v", notes, p.m.notes)
	}
	for _, n := range notes {
		if look, ok := p.p.Look(n.Dev); !ok || !look.Open || n.Mask < 1 || n.Mask > 7 {
			t.Fatalf("a note %v of a device %v", n, look)
		}
	}
	all := p.q.All()
	if !slices.Equal(all, p.m.ready) {
		t.Fatalf("there wait %v; want %v", all, p.m.ready)
	}
	if devs := p.q.Devs(); devs > max(p.m.most, 0) || devs > p.m.devs || len(notes) > p.m.size.notes {
		t.Fatalf("too much of %+v: %v, %v", p.m.size, all, notes)
	}
}

// full is a pair in which there is something of everything: of three devices 0 is watched by its level, has to tell,
// and waits behind a timer; 1 has to tell, but may not wait, and has a note; 2 isn't watched, and something is kept.
func full(t *testing.T) pair {
	p := newPair(sizeOf(3, 2, 1))
	for dev := range 3 {
		p.open(t, dev)
	}
	p.watch(t, 0, 10, 1, 0)
	p.watch(t, 1, 11, 7, 1)
	p.post(t, 0, 5)
	p.post(t, 1, 2)
	p.post(t, 2, 4)
	p.due(t, 0)
	p.settle()
	p.post(t, 1, 4)
	p.post(t, 0, 2)
	p.post(t, 2, 3)
	p.same(t)
	return p
}

// noSuch are devices that a poll of so many doesn't have.
func noSuch(devs int) []int {
	return []int{
		math.MinInt, math.MinInt + 1, math.MinInt32, -1 << 32, -devs - 1, -devs, -65, -64, -2, -1,
		devs, devs + 1, 2 * devs, 64, 65, 256, 1 << 32, 1<<32 + 1, math.MaxInt - 1, math.MaxInt,
	}
}

// masks are bits of every kind: Any's, others, and both.
func masks() []int {
	list := []int{
		8, 9, 14, 15, 16, 32, 64, 128, 255, 256, 1 << 16, 1<<32 + 5, 1 << 62, math.MaxInt, math.MaxInt - 7,
		-1, -2, -7, -8, -9, -16, math.MinInt, math.MinInt + 1, math.MinInt + 6, math.MinInt + 8,
	}
	for mask := range 8 {
		list = append(list, mask)
	}
	return list
}

// steps is a fixed run of numbers, to make calls of.
func steps(count int) []uint64 {
	list := make([]uint64, 0, count)
	x := uint64(0x9E3779B97F4A7C15)
	for range count {
		x ^= x << 13
		x ^= x >> 7
		x ^= x << 17
		list = append(list, x>>3)
	}
	return list
}
