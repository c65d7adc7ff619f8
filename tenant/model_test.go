package tenant_test

import (
	"math/big"
	"slices"
	"testing"

	"nightjar/alarm"
	"nightjar/api"
	"nightjar/caps"
	"nightjar/gate"
	"nightjar/poll"
	"nightjar/queue"
	"nightjar/slab"
	"nightjar/tenant"
)

// size is how much there is of everything, and when all begins.
type size struct {
	q            api.Quota
	gens, budget int
	now          uint64
}

// newTenant is a tenant over regions of its own.
func newTenant(s size) *tenant.Tenant {
	rows := slab.New[caps.Row]([]int{s.q.Handles}).Region(0)
	alarms := slab.New[alarm.Row]([]int{s.q.Timers}).Region(0)
	return tenant.New(s.q, s.gens, s.budget, s.now, rows, alarms)
}

// h is a handle's bits: rights, the place and the generation, from the lowest ones on.
func h(slot, gen, rights uint64) uint64 { return gen<<24 | slot<<8 | rights }

// place is a place for handles: how many it had, and which one is out.
type place struct {
	had                 int
	out                 bool
	handle              uint64
	kind, index, rights int
}

// clock is a timer, and how many were set ahead of it.
type clock struct {
	row  alarm.Row
	turn int
}

// model is a tenant as the document's words have it: lists, gone through from their beginnings. What a gate does is
// gate's own affair.
type model struct {
	size
	places []place
	clocks []*clock
	gates  []gate.Gate
	notes  []poll.Note
	waits  []queue.Thing
	first  int
	turns  int
}

func newModel(s size) *model {
	return &model{
		size:   s,
		places: make([]place, s.q.Handles),
		clocks: make([]*clock, s.q.Timers),
		gates:  make([]gate.Gate, s.q.Devs),
	}
}

// needs is what calls on a thing ask for: its kind, and a right.
var needs = map[int][2]int{4: {1, 1}, 5: {1, 2}, 6: {1, 4}, 7: {2, 1}, 8: {2, 2}, 9: {2, 4}, 10: {2, 4}}

func (m *model) call(c api.Call, now uint64) api.Result {
	val, err := m.answer(c, now)
	if err != api.OK {
		val = 0
	}
	return api.Result{Code: err, Val: val}
}

func (m *model) answer(c api.Call, now uint64) (uint64, api.Errno) {
	if c.Op < 0 || c.Op > 12 {
		return 0, api.ErrArg
	}
	need, ok := needs[c.Op]
	if !ok {
		return m.plain(c, now)
	}
	p := m.find(c.A)
	switch {
	case p == nil:
		return 0, api.ErrBadHandle
	case p.kind != need[0]:
		return 0, api.ErrKind
	case p.rights&need[1] == 0:
		return 0, api.ErrRights
	case p.kind == 1:
		return m.onClock(c, p.index, now)
	}
	return m.onGate(c, p.index)
}

// plain answers the calls without a handle, and those on a handle of whichever kind.
func (m *model) plain(c api.Call, now uint64) (uint64, api.Errno) {
	switch c.Op {
	case 0:
		return m.open(c.A)
	case 1:
		for k, x := range m.clocks {
			if x == nil && m.mayMint() {
				m.clocks[k] = &clock{}
				return m.mint(1, k, 15), api.OK
			}
		}
		return 0, api.ErrQuota
	case 2:
		return m.dup(c.A, c.B)
	case 3:
		return m.drop(c.A)
	case 11:
		used := m.used()
		if c.A > 4 {
			return 0, api.ErrArg
		}
		return used[c.A], api.OK
	}
	return now, api.OK
}

func (m *model) open(a uint64) (uint64, api.Errno) {
	switch {
	case a >= uint64(m.q.Devs):
		return 0, api.ErrArg
	case m.gates[a].Look().Open:
		return 0, api.ErrBusy
	case !m.mayMint():
		return 0, api.ErrQuota
	}
	m.gates[a].Open()
	return m.mint(2, int(a), 15), api.OK
}

func (m *model) dup(a, b uint64) (uint64, api.Errno) {
	p := m.find(a)
	switch {
	case p == nil:
		return 0, api.ErrBadHandle
	case p.rights < 8:
		return 0, api.ErrRights
	case b > 15:
		return 0, api.ErrArg
	case b|uint64(p.rights) != uint64(p.rights):
		return 0, api.ErrRights
	case !m.mayMint():
		return 0, api.ErrQuota
	}
	return m.mint(p.kind, p.index, int(b)), api.OK
}

func (m *model) drop(a uint64) (uint64, api.Errno) {
	p := m.find(a)
	if p == nil {
		return 0, api.ErrBadHandle
	}
	p.out = false
	left := 0
	for _, o := range m.places {
		if o.out && o.kind == p.kind && o.index == p.index {
			left++
		}
	}
	thing := queue.Thing{Kind: p.kind, Index: p.index}
	if p.kind == 1 {
		if m.clocks[p.index].row.Handle == a {
			m.stop(p.index)
		}
		if left == 0 {
			m.clocks[p.index] = nil
		}
		return uint64(left), api.OK
	}
	g := &m.gates[p.index]
	if g.Look().Handle == a {
		g.Unwatch()
		m.leave(thing)
	}
	if left == 0 {
		g.Close()
		m.leave(thing)
		m.notes = slices.DeleteFunc(slices.Clone(m.notes), func(n poll.Note) bool { return n.Dev == p.index })
	}
	return uint64(left), api.OK
}

// stop tells whether a timer wasn't idle.
func (m *model) stop(k int) bool {
	was := m.clocks[k].row.State != 0
	m.clocks[k].row = alarm.Row{}
	m.leave(queue.Thing{Kind: 1, Index: k})
	return was
}

func (m *model) onClock(c api.Call, k int, now uint64) (uint64, api.Errno) {
	switch c.Op {
	case 4:
		at := new(big.Int).Add(new(big.Int).SetUint64(now), new(big.Int).SetUint64(c.B))
		if !at.IsUint64() {
			return 0, api.ErrRange
		}
		was := m.stop(k)
		m.set(k, alarm.Row{State: 1, Handle: c.A, At: at.Uint64(), Period: c.C})
		return number(was), api.OK
	case 5:
		return number(m.stop(k)), api.OK
	}
	if m.clocks[k].row.State == 0 {
		return 0, api.ErrOff
	}
	return m.clocks[k].row.At, api.OK
}

func (m *model) set(k int, row alarm.Row) {
	m.clocks[k] = &clock{row: row, turn: m.turns}
	m.turns++
}

func (m *model) onGate(c api.Call, k int) (uint64, api.Errno) {
	g := &m.gates[k]
	switch c.Op {
	case 7:
		if c.B == 0 || c.B > 7 || c.C > 2 {
			return 0, api.ErrArg
		}
		g.Watch(c.A, int(c.B), int(c.C))
		m.leave(queue.Thing{Kind: 2, Index: k})
		return 0, api.OK
	case 8:
		was := g.Look().Want != 0
		if was {
			g.Unwatch()
			m.leave(queue.Thing{Kind: 2, Index: k})
		}
		return number(was), api.OK
	case 9:
		return uint64(g.Look().Ready), api.OK
	}
	if c.B > 7 {
		return 0, api.ErrArg
	}
	return uint64(g.Ack(int(c.B))), api.OK
}

func (m *model) ready(dev, mask int) bool {
	came := mask & 7
	if dev < 0 || dev >= len(m.gates) || !m.gates[dev].Look().Open || came == 0 {
		return false
	}
	if len(m.notes) < m.q.Inbox {
		m.notes = append(slices.Clone(m.notes), poll.Note{Dev: dev, Mask: came})
	} else {
		m.gates[dev].Keep(came)
	}
	return true
}

func (m *model) slot(end uint64) []api.Item {
	for _, k := range m.due(end) {
		m.clocks[k].row.State = 2
		m.push(queue.Thing{Kind: 1, Index: k})
	}
	m.settle()
	var told []api.Item
	for len(told) < m.budget && len(m.waits) > 0 {
		thing := m.waits[0]
		m.leave(thing)
		if thing.Kind == 1 {
			handle := m.clocks[thing.Index].row.Handle
			told = append(told, api.Item{Kind: 1, Handle: handle, Val: m.sent(thing.Index, end), Stamp: end})
		} else if handle, mask := m.gates[thing.Index].Tell(); mask != 0 {
			told = append(told, api.Item{Kind: 2, Handle: handle, Val: uint64(mask), Stamp: end})
		}
	}
	return told
}

// due is all timers that are set for a time up to end, by their times, and as they were set.
func (m *model) due(end uint64) []int {
	var all []int
	for k, x := range m.clocks {
		if x == nil || x.row.State != 1 || x.row.At > end {
			continue
		}
		at := 0
		for at < len(all) {
			o := m.clocks[all[at]]
			if o.row.At > x.row.At || o.row.At == x.row.At && o.turn > x.turn {
				break
			}
			at++
		}
		all = slices.Insert(all, at, k)
	}
	return all
}

// sent is how many periods of a timer are over, which is set again, if it has one, and there is such a time.
func (m *model) sent(k int, end uint64) uint64 {
	row := m.clocks[k].row
	if row.Period == 0 {
		m.clocks[k].row = alarm.Row{}
		return 1
	}
	past := new(big.Int).SetUint64((end - row.At) / row.Period)
	count := past.Add(past, big.NewInt(1))
	at := new(big.Int).Mul(count, new(big.Int).SetUint64(row.Period))
	at.Add(at, new(big.Int).SetUint64(row.At))
	if !at.IsUint64() {
		m.clocks[k].row = alarm.Row{}
		return 1
	}
	row.State, row.At = 1, at.Uint64()
	m.set(k, row)
	return count.Uint64()
}

func (m *model) settle() {
	for _, n := range m.notes {
		m.gates[n.Dev].Meet(n.Mask)
	}
	m.notes = nil
	for dev := range m.gates {
		m.gates[dev].Flush()
	}
	var turn []int
	for dev := m.first; dev < len(m.gates); dev++ {
		turn = append(turn, dev)
	}
	for dev := range m.first {
		turn = append(turn, dev)
	}
	for _, dev := range turn {
		if m.gates[dev].Wants() && m.push(queue.Thing{Kind: 2, Index: dev}) {
			m.first = (dev + 1) % len(m.gates)
		}
	}
}

func (m *model) push(x queue.Thing) bool {
	devs := 0
	for _, o := range m.waits {
		if o == x {
			return false
		}
		if o.Kind == 2 {
			devs++
		}
	}
	if x.Kind == 2 && devs >= m.q.Inbox {
		return false
	}
	m.waits = append(slices.Clone(m.waits), x)
	return true
}

func (m *model) leave(x queue.Thing) {
	m.waits = slices.DeleteFunc(slices.Clone(m.waits), func(o queue.Thing) bool { return o == x })
}

// find is the place of a handle that is out; nil: none of these bits is.
func (m *model) find(handle uint64) *place {
	for k := range m.places {
		if m.places[k].out && m.places[k].handle == handle {
			return &m.places[k]
		}
	}
	return nil
}

// free is the first place that isn't used up, and of which no handle is out; -1: there is none.
func (m *model) free() int {
	return slices.IndexFunc(m.places, func(p place) bool { return !p.out && p.had < m.gens })
}

func (m *model) mayMint() bool { return m.free() >= 0 }

func (m *model) mint(kind, index, rights int) uint64 {
	k := m.free()
	p := &m.places[k]
	p.had++
	*p = place{had: p.had, out: true, handle: h(uint64(k), uint64(p.had), uint64(rights)), kind: kind, index: index, rights: rights}
	return p.handle
}

// used is how many handles, timers, open devices, notes and things in the queue there are.
func (m *model) used() [5]uint64 {
	var n [5]uint64
	for _, p := range m.places {
		n[0] += number(p.out)
	}
	for _, x := range m.clocks {
		n[1] += number(x != nil)
	}
	for _, g := range m.gates {
		n[2] += number(g.Look().Open)
	}
	n[3], n[4] = uint64(len(m.notes)), uint64(len(m.waits))
	return n
}

func (m *model) shot() tenant.Shot {
	s := tenant.Shot{Notes: slices.Clone(m.notes), Queue: slices.Clone(m.waits)}
	for _, p := range m.places {
		if p.out {
			s.Handles = append(s.Handles, p.handle)
		} else if p.had == m.gens {
			s.Dead++
		}
	}
	for _, x := range m.clocks {
		if x != nil {
			s.Timers = append(s.Timers, x.row)
		}
	}
	for _, g := range m.gates {
		s.Devs = append(s.Devs, g.Look())
	}
	return s
}

func number(is bool) uint64 {
	if is {
		return 1
	}
	return 0
}

// alike holds two shots against each other, without the program's own Same.
func alike(a, b tenant.Shot) bool {
	return a.Dead == b.Dead && slices.Equal(a.Handles, b.Handles) && slices.Equal(a.Timers, b.Timers) &&
		slices.Equal(a.Devs, b.Devs) && slices.Equal(a.Notes, b.Notes) && slices.Equal(a.Queue, b.Queue)
}

// steps is a fixed run of numbers, to make calls of.
func steps(seed, count int) []uint64 {
	list := make([]uint64, 0, count)
	x := uint64(0x9E3779B97F4A7C15) * uint64(seed+1)
	for range count {
		x ^= x << 13
		x ^= x >> 7
		x ^= x << 17
		list = append(list, x>>3)
	}
	return list
}

// bench is a tenant, the model of which all its answers are asked, and the time.
type bench struct {
	t   testing.TB
	x   *tenant.Tenant
	m   *model
	now uint64
}

func newBench(t testing.TB, s size) *bench {
	return &bench{t: t, x: newTenant(s), m: newModel(s), now: s.now}
}

// call holds an answer against the model; with an error nothing is turned (P16.2).
func (b *bench) call(c api.Call) api.Result {
	b.t.Helper()
	before := b.x.Shot()
	want := b.m.call(c, b.now)
	got := b.x.Call(c, b.now)
	if got != want {
		b.t.Fatalf("at %d %v = %v; want %v", b.now, c, got, want)
	}
	if got.Code != api.OK && (got.Val != 0 || !alike(before, b.x.Shot())) {
		b.t.Fatalf("at %d %v = %v, and was %v, is %v", b.now, c, got, before, b.x.Shot())
	}
	return got
}

// asked is a call of numbers.
func asked(op int, nums ...uint64) api.Call {
	nums = append(nums, 0, 0, 0)
	return api.Call{Op: op, A: nums[0], B: nums[1], C: nums[2]}
}

// is asks, and wants a Val.
func (b *bench) is(val uint64, op int, nums ...uint64) uint64 {
	b.t.Helper()
	if got := b.call(asked(op, nums...)); got != (api.Result{Val: val}) {
		b.t.Fatalf("at %d %v = %v; want %d", b.now, asked(op, nums...), got, val)
	}
	b.same()
	return val
}

// fails asks, and wants an error.
func (b *bench) fails(err api.Errno, op int, nums ...uint64) {
	b.t.Helper()
	if got := b.call(asked(op, nums...)); got != (api.Result{Code: err}) {
		b.t.Fatalf("at %d %v = %v; want the error %d", b.now, asked(op, nums...), got, err)
	}
	b.same()
}

// ready lets something come of a device.
func (b *bench) ready(dev, mask int) bool {
	b.t.Helper()
	want := b.m.ready(dev, mask)
	if got := b.x.Ready(dev, mask); got != want {
		b.t.Fatalf("Ready(%d, %d) = %v; want %v", dev, mask, got, want)
	}
	return want
}

// comes is ready, and that it tells true.
func (b *bench) comes(dev, mask int) {
	b.t.Helper()
	if !b.ready(dev, mask) {
		b.t.Fatalf("Ready(%d, %d) = false", dev, mask)
	}
	b.same()
}

// slot holds what is told against the model, and against the words that hold for all of it (P16.3).
func (b *bench) slot(end uint64) []api.Item {
	b.t.Helper()
	b.now = end
	want := b.m.slot(end)
	got := b.x.Slot(end)
	if !slices.Equal(got, want) {
		b.t.Fatalf("at %d is told %v; want %v", end, got, want)
	}
	if len(got) > b.m.budget {
		b.t.Fatalf("at %d is told %v, above %d", end, got, b.m.budget)
	}
	out := b.x.Shot().Handles
	for _, i := range got {
		if !slices.Contains(out, i.Handle) || i.Stamp != end || i.Op != 0 || i.Code != 0 || i.Val == 0 {
			b.t.Fatalf("at %d is told %v; there are out %v", end, i, out)
		}
	}
	return got
}

// tells is slot, and wants these items; their Stamp is the slot's end.
func (b *bench) tells(end uint64, want ...api.Item) {
	b.t.Helper()
	for k := range want {
		want[k].Stamp = end
	}
	if got := b.slot(end); !slices.Equal(got, want) {
		b.t.Fatalf("at %d is told %v; want %v", end, got, want)
	}
	b.same()
}

// of is an alarm, on a signal.
func of(handle, val uint64) api.Item { return api.Item{Kind: api.Alarm, Handle: handle, Val: val} }

func on(handle, mask uint64) api.Item { return api.Item{Kind: api.Signal, Handle: handle, Val: mask} }

// same holds all that is to be seen against the model, and against the words that hold for all of it (P16.3, P4).
func (b *bench) same() {
	b.t.Helper()
	shot, want := b.x.Shot(), b.m.shot()
	if !alike(shot, want) || !shot.Same(want) || !want.Same(shot) {
		b.t.Fatalf("at %d: %+v; want %+v", b.now, shot, want)
	}
	for what, n := range b.m.used() {
		if got := b.x.Call(asked(api.Used, uint64(what)), b.now); got != (api.Result{Val: n}) {
			b.t.Fatalf("at %d: used of %d is %v; want %d", b.now, what, got, n)
		}
	}
	b.lawful(shot)
}

// lawful holds that nothing is above its bound, and that whatever tells something does so by a handle that is out.
func (b *bench) lawful(s tenant.Shot) {
	b.t.Helper()
	q := b.m.q
	if len(s.Handles)+s.Dead > q.Handles || len(s.Timers) > q.Timers || len(s.Devs) != q.Devs || len(s.Notes) > q.Inbox {
		b.t.Fatalf("above %v: %+v", q, s)
	}
	devs := 0
	for k, x := range s.Queue {
		if slices.Contains(s.Queue[:k], x) {
			b.t.Fatalf("there waits %v twice: %+v", x, s)
		}
		devs += int(number(x.Kind == queue.Dev))
	}
	if devs > q.Inbox || len(s.Queue)-devs > len(s.Timers) {
		b.t.Fatalf("above %v: %+v", q, s)
	}
	due := 0
	for _, row := range s.Timers {
		if row.State != alarm.Idle && !slices.Contains(s.Handles, row.Handle) {
			b.t.Fatalf("a timer by a handle that isn't out: %+v", s)
		}
		due += int(number(row.State == alarm.Due))
	}
	if due != len(s.Queue)-devs {
		b.t.Fatalf("%d timers are due: %+v", due, s)
	}
	for _, look := range s.Devs {
		if look.Want != 0 && (!look.Open || !slices.Contains(s.Handles, look.Handle)) {
			b.t.Fatalf("a device by a handle that isn't out: %+v", s)
		}
	}
}
