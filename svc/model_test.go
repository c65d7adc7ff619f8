package svc_test

import (
	"math"
	"slices"
	"testing"

	"nightjar/alarm"
	"nightjar/api"
	"nightjar/caps"
	"nightjar/slab"
	"nightjar/svc"
	"nightjar/tenant"
)

const most = math.MaxUint64

// h is a handle's bits: rights, the place and the generation, from the lowest ones on.
func h(slot, gen, rights uint64) uint64 { return gen<<24 | slot<<8 | rights }

// A plain tick is one of a cycle, as the words of layer 9 have it: whose it is, whether a slot ends with it, and how many
// ticks that has.
type plainTick struct {
	who, length int
	last        bool
}

// ticksOf is all ticks of a cycle, one by one.
func ticksOf(c api.Cfg) []plainTick {
	var list []plainTick
	for _, slot := range c.Slots {
		for k := range slot.Len {
			list = append(list, plainTick{who: slot.Owner, length: slot.Len, last: k == slot.Len-1})
		}
	}
	return list
}

// model is a service as the chapter's words have it: tenants that are each alone, over slabs of their own, and a list of
// whose ticks are whose. What a tenant does is layer 16's own affair.
type model struct {
	c       api.Cfg
	ticks   []plainTick
	now     uint64
	tenants []*tenant.Tenant
	traces  [][]api.Item
}

func newModel(c api.Cfg) *model {
	m := &model{c: c, ticks: ticksOf(c), now: c.First, traces: make([][]api.Item, len(c.Tenants))}
	for _, q := range c.Tenants {
		m.tenants = append(m.tenants, loneTenant(c, q))
	}
	return m
}

// loneTenant is a tenant of a layout, over slabs that nobody else has.
func loneTenant(c api.Cfg, q api.Quota) *tenant.Tenant {
	rows := slab.New[caps.Row]([]int{q.Handles}).Region(0)
	alarms := slab.New[alarm.Row]([]int{q.Timers}).Region(0)
	return tenant.New(q, c.Gens, c.Budget, c.First, rows, alarms)
}

func (m *model) do(e api.Entry) bool {
	if !mayBe(e) || e.Kind != 0 && e.Who >= len(m.tenants) {
		return false
	}
	switch e.Kind {
	case 0:
		for range e.N {
			m.tick()
		}
	case 1:
		r := m.tenants[e.Who].Call(e.Call, m.now)
		m.add(e.Who, api.Item{Op: e.Call.Op, Code: r.Code, Val: r.Val, Stamp: m.now})
	case 2:
		m.tenants[e.Who].Ready(e.Dev, e.Mask)
	}
	return true
}

func (m *model) tick() {
	if m.now == most {
		return
	}
	m.now++
	if x := m.ticks[(m.now-1)%uint64(len(m.ticks))]; x.last {
		m.add(x.who, m.tenants[x.who].Slot(m.now)...)
	}
}

func (m *model) add(who int, items ...api.Item) { m.traces[who] = append(m.traces[who], items...) }

// argsOf is how many numbers each kind of calls has, by the table of layer 14.
func argsOf() []int { return []int{1, 0, 2, 1, 3, 1, 1, 3, 1, 1, 2, 1, 0} }

// mayBe is layer 15's word "right", field by field.
func mayBe(e api.Entry) bool {
	noCall := e.Call.Op == 0 && e.Call.A == 0 && e.Call.B == 0 && e.Call.C == 0
	who := e.Who >= 0 && e.Who <= 255
	switch e.Kind {
	case 0:
		return e.N >= 1 && e.N <= 100 && e.Who == 0 && noCall && e.Dev == 0 && e.Mask == 0
	case 1:
		return who && mayAsk(e.Call) && e.N == 0 && e.Dev == 0 && e.Mask == 0
	case 2:
		return who && e.Dev >= 0 && e.Dev <= 255 && e.Mask >= 1 && e.Mask <= 7 && e.N == 0 && noCall
	}
	return false
}

func mayAsk(c api.Call) bool {
	if c.Op < 0 || c.Op > 12 {
		return false
	}
	n := argsOf()[c.Op]
	return (n >= 1 || c.A == 0) && (n >= 2 || c.B == 0) && (n >= 3 || c.C == 0)
}

// tick, ask and comes are entries.
func tick(n int) api.Entry { return api.Entry{Kind: 0, N: n} }

func ask(who, op int, nums ...uint64) api.Entry {
	nums = append(nums, 0, 0, 0)
	return api.Entry{Kind: 1, Who: who, Call: api.Call{Op: op, A: nums[0], B: nums[1], C: nums[2]}}
}

func comes(who, dev, mask int) api.Entry { return api.Entry{Kind: 2, Who: who, Dev: dev, Mask: mask} }

// pair is a layout of two tenants that are alike: two ticks of 0, three of 1.
func pair(first uint64) api.Cfg {
	q := api.Quota{Handles: 3, Timers: 2, Devs: 2, Inbox: 1}
	return api.Cfg{
		Tenants: []api.Quota{q, q},
		Slots:   []api.Slot{{Owner: 0, Len: 2}, {Owner: 1, Len: 3}},
		Budget:  1, Gens: 9, First: first,
	}
}

// single is a layout of one tenant, each tick of which is a slot.
func single() api.Cfg {
	return api.Cfg{
		Tenants: []api.Quota{{Handles: 4, Timers: 2, Devs: 2, Inbox: 2}},
		Slots:   []api.Slot{{Owner: 0, Len: 1}},
		Budget:  2, Gens: 3,
	}
}

// triple is a layout of three tenants that are not alike, with slots of one owner side by side, which begins amidst a
// slot.
func triple() api.Cfg {
	return api.Cfg{
		Tenants: []api.Quota{
			{Handles: 5, Timers: 3, Devs: 1, Inbox: 1},
			{Handles: 2, Timers: 1, Devs: 2, Inbox: 3},
			{Handles: 9, Timers: 0, Devs: 5, Inbox: 2},
		},
		Slots:  []api.Slot{{Owner: 2, Len: 1}, {Owner: 0, Len: 3}, {Owner: 0, Len: 1}, {Owner: 1, Len: 4}, {Owner: 2, Len: 2}, {Owner: 0, Len: 5}},
		Budget: 2, Gens: 4, First: 12345,
	}
}

// eight is a layout of as many tenants and slots as there may be, no two tenants alike.
func eight() api.Cfg {
	c := api.Cfg{Budget: 3, Gens: 5, First: 77}
	for k := range 8 {
		c.Tenants = append(c.Tenants, api.Quota{Handles: 3 + 2*k, Timers: 1 + k, Devs: 8 - k, Inbox: 1 + k%3})
	}
	for k := range 64 {
		c.Slots = append(c.Slots, api.Slot{Owner: k * k % 59 % 8, Len: 1 + k%4})
	}
	return c
}

// greatest and least are layouts of eight tenants, with the greatest and the least bounds.
func greatest() api.Cfg {
	c := alike(api.Quota{Handles: 256, Timers: 256, Devs: 64, Inbox: 64})
	c.Budget, c.Gens = 16, 1<<24-1
	return c
}

func least() api.Cfg {
	c := alike(api.Quota{Handles: 1, Inbox: 1})
	c.Budget, c.Gens = 1, 1
	return c
}

func alike(q api.Quota) api.Cfg {
	var c api.Cfg
	for k := range 8 {
		c.Tenants = append(c.Tenants, q)
		c.Slots = append(c.Slots, api.Slot{Owner: 7 - k, Len: 1 + 3*k})
	}
	return c
}

// layouts are layouts of many kinds; the time of the last ones stops.
func layouts() []api.Cfg {
	return []api.Cfg{pair(0), pair(3), single(), triple(), eight(), greatest(), least(), pair(most - 150), pair(most - 1), pair(most)}
}

// steps is a fixed run of numbers without rhyme.
func steps(seed, count int) []uint64 {
	list := make([]uint64, count)
	x := uint64(0x9E3779B97F4A7C15) * uint64(seed+1)
	for i := range list {
		x ^= x << 13
		x ^= x >> 7
		x ^= x << 17
		list[i] = x * 0x2545F4914F6CDD1D
	}
	return list
}

// dice gives numbers, one behind the other, of one step.
type dice uint64

func (d *dice) below(n int) int {
	k := int(uint64(*d) % uint64(n))
	*d = dice(uint64(*d)/uint64(n) + uint64(*d)<<40)
	return k
}

// script is a mixed script for a layout: most calls are of handles that were given, so that they do something.
func script(c api.Cfg, seed, count int) []api.Entry {
	m := newModel(c)
	var list []api.Entry
	for _, x := range steps(seed, count) {
		d := dice(x >> 3)
		e := m.anyEntry(&d)
		m.do(e)
		list = append(list, e)
	}
	return list
}

func (m *model) anyEntry(d *dice) api.Entry {
	who := d.below(len(m.tenants))
	if d.below(15) == 0 {
		who = len(m.tenants) + d.below(3)
	}
	switch d.below(12) {
	case 0, 1, 2:
		return tick(1 + d.below(1+d.below(12)))
	case 3, 4, 5:
		return comes(who, d.below(m.quota(who).Devs+1), 1+d.below(7))
	case 6:
		if d.below(9) == 0 {
			return api.Entry{Kind: d.below(4), Who: who, N: d.below(3), Mask: d.below(9)}
		}
	}
	return m.anyCall(who, d)
}

func (m *model) quota(who int) api.Quota {
	if who >= len(m.tenants) {
		return api.Quota{}
	}
	return m.c.Tenants[who]
}

func (m *model) anyCall(who int, d *dice) api.Entry {
	ops := []int{0, 0, 1, 1, 2, 2, 3, 4, 4, 4, 4, 5, 6, 7, 7, 7, 8, 9, 10, 11, 12}
	op := ops[d.below(len(ops))]
	nums := []uint64{m.anyHandle(who, d), 0, 0}
	switch op {
	case 0:
		nums[0] = uint64(d.below(m.quota(who).Devs + 1))
	case 2:
		nums[1] = []uint64{15, 15, 15, 9, 7, 16}[d.below(6)]
	case 4:
		nums[1] = []uint64{0, 1, 2, 5, 9, 40, most, most - 12400}[d.below(8)]
		nums[2] = []uint64{0, 0, 1, 3, 70, most}[d.below(6)]
	case 7:
		nums[1], nums[2] = uint64(d.below(9)), uint64(d.below(4))
	case 10:
		nums[1] = uint64(d.below(9))
	case 11:
		nums[0] = uint64(d.below(6))
	}
	return ask(who, op, nums[:argsOf()[op]]...)
}

// anyHandle is one that the tenant was given, a late one more often than not; now and then one that another was given.
func (m *model) anyHandle(who int, d *dice) uint64 {
	if d.below(10) == 0 || who >= len(m.tenants) {
		who = d.below(len(m.tenants))
	}
	given := givenOf(m.traces[who])
	if len(given) == 0 {
		return uint64(d.below(1 << 26))
	}
	return given[len(given)-1-d.below(1+d.below(len(given)))]
}

// givenOf is all handles that a trace gives.
func givenOf(trace []api.Item) []uint64 {
	var given []uint64
	for _, i := range trace {
		if i.Kind == 0 && i.Op <= 2 && i.Code == 0 {
			given = append(given, i.Val)
		}
	}
	return given
}

// bench is a service, the model that it is held against, and all entries so far.
type bench struct {
	t    testing.TB
	s    *svc.Service
	m    *model
	done []api.Entry
}

func newBench(t testing.TB, c api.Cfg) *bench {
	t.Helper()
	return &bench{t: t, s: made(t, c), m: newModel(c)}
}

// made is a service of a layout that is right.
func made(t testing.TB, c api.Cfg) *svc.Service {
	t.Helper()
	s, err := svc.New(c)
	if s == nil || err != api.OK {
		t.Fatalf("New(%v) = %v, %d", c, s, err)
	}
	return s
}

// do holds what an entry does against the model, but for what same looks at.
func (b *bench) do(e api.Entry) bool {
	b.t.Helper()
	b.done = append(b.done, e)
	want := b.m.do(e)
	if got := b.s.Do(e); got != want {
		b.t.Fatalf("behind %v: Do(%v) = %v", b.done[:len(b.done)-1], e, got)
	}
	if b.s.Now() != b.m.now {
		b.t.Fatalf("behind %v: Now = %d; want %d", b.done, b.s.Now(), b.m.now)
	}
	return want
}

// all does entries, and holds all that is to be seen then against the model.
func (b *bench) all(list ...api.Entry) {
	b.t.Helper()
	for _, e := range list {
		b.do(e)
	}
	b.same()
}

// same holds all that is to be seen against the model.
func (b *bench) same() {
	b.t.Helper()
	if b.s.Tenants() != len(b.m.tenants) {
		b.t.Fatalf("Tenants = %d; want %d", b.s.Tenants(), len(b.m.tenants))
	}
	for who, x := range b.m.tenants {
		if got := b.s.Trace(who); !slices.Equal(got, b.m.traces[who]) {
			b.t.Fatalf("behind %v: the trace of %d is %v; want %v", b.done, who, got, b.m.traces[who])
		}
		if got := b.s.Shot(who); !alikeShots(got, x.Shot()) {
			b.t.Fatalf("behind %v: of %d is to be seen %v; want %v", b.done, who, got, x.Shot())
		}
	}
}

// alikeShots holds two shots against each other, without the program's own Same.
func alikeShots(a, b tenant.Shot) bool {
	return a.Dead == b.Dead && slices.Equal(a.Handles, b.Handles) && slices.Equal(a.Timers, b.Timers) &&
		slices.Equal(a.Devs, b.Devs) && slices.Equal(a.Notes, b.Notes) && slices.Equal(a.Queue, b.Queue)
}

// seen is all that is to be seen of a service.
type seen struct {
	now    uint64
	traces [][]api.Item
	shots  []tenant.Shot
}

func look(s *svc.Service) seen {
	x := seen{now: s.Now()}
	for who := range s.Tenants() {
		x.traces = append(x.traces, s.Trace(who))
		x.shots = append(x.shots, s.Shot(who))
	}
	return x
}

func (x seen) same(o seen) bool {
	return x.now == o.now && sameTraces(x.traces, o.traces) && slices.EqualFunc(x.shots, o.shots, alikeShots)
}

func sameTraces(a, b [][]api.Item) bool { return slices.EqualFunc(a, b, slices.Equal[[]api.Item]) }

// copyOf is a layout that shares nothing with another one.
func copyOf(c api.Cfg) api.Cfg {
	c.Tenants, c.Slots = slices.Clone(c.Tenants), slices.Clone(c.Slots)
	return c
}
