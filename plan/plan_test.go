package plan

import (
	"math"
	"math/big"
	"slices"
	"testing"

	"nightjar/api"
)

const greatest = math.MaxUint64

// slot is a slot as a model has it: when it begins and ends in the first cycle, and whose it is.
type slot struct {
	owner      int
	begin, end uint64
}

// model is a cycle as the document's words have it: the slots one behind the other, and whose each tick is.
type model struct {
	slots []slot
	ticks []int
	ends  []bool
}

func newModel(slots []api.Slot) *model {
	m := &model{}
	for _, s := range slots {
		begin := uint64(len(m.ticks))
		for i := range s.Len {
			m.ticks = append(m.ticks, s.Owner)
			m.ends = append(m.ends, i == s.Len-1)
		}
		m.slots = append(m.slots, slot{owner: s.Owner, begin: begin, end: uint64(len(m.ticks))})
	}
	return m
}

func (m *model) cycle() uint64 { return uint64(len(m.ticks)) }

func (m *model) at(t uint64) (int, bool) {
	if t == 0 {
		return 0, false
	}
	i := (t - 1) % m.cycle()
	return m.ticks[i], m.ends[i]
}

// kth is the k-th slot of a tenant from a time on, by numbers without end: all slots of the tenant, of all cycles, are
// counted from 0 on, and the first one from the time on is found among them.
func (m *model) kth(who int, t uint64, k int) (uint64, uint64, bool) {
	var own []slot
	ahead := 0
	for _, s := range m.slots {
		if s.owner == who {
			own = append(own, s)
			if s.begin < t%m.cycle() {
				ahead++
			}
		}
	}
	if k < 1 || len(own) == 0 {
		return 0, 0, false
	}
	each := big.NewInt(int64(len(own)))
	number := new(big.Int).SetUint64(t / m.cycle())
	number.Mul(number, each)
	number.Add(number, big.NewInt(int64(ahead)))
	number.Add(number, big.NewInt(int64(k-1)))
	cycles, rest := new(big.Int).DivMod(number, each, new(big.Int))
	first := cycles.Mul(cycles, new(big.Int).SetUint64(m.cycle()))
	s := own[rest.Int64()]
	begin := new(big.Int).Add(first, new(big.Int).SetUint64(s.begin))
	end := new(big.Int).Add(first, new(big.Int).SetUint64(s.end))
	if !end.IsUint64() {
		return 0, 0, false
	}
	return begin.Uint64(), end.Uint64(), true
}

// pair is a plan, and the model of which all its answers are asked.
type pair struct {
	p     Plan
	m     *model
	slots []api.Slot
}

func newPair(t *testing.T, slots []api.Slot, tenants int) pair {
	t.Helper()
	p, err := Of(slots, tenants)
	if err != api.OK {
		t.Fatalf("Of(%v, %d): %d", slots, tenants, err)
	}
	return pair{p: p, m: newModel(slots), slots: slots}
}

func (x pair) sameAt(t *testing.T, at uint64) {
	t.Helper()
	who, end := x.m.at(at)
	if a, b := x.p.At(at); a != who || b != end {
		t.Fatalf("%v: At(%d) = %d, %v; want %d, %v", x.slots, at, a, b, who, end)
	}
}

func (x pair) sameNext(t *testing.T, who int, at uint64) {
	t.Helper()
	begin, end, ok := x.m.kth(who, at, 1)
	if a, b, c := x.p.Next(who, at); a != begin || b != end || c != ok {
		t.Fatalf("%v: Next(%d, %d) = %d, %d, %v; want %d, %d, %v", x.slots, who, at, a, b, c, begin, end, ok)
	}
}

func (x pair) sameKth(t *testing.T, who int, at uint64, k int) {
	t.Helper()
	_, end, ok := x.m.kth(who, at, k)
	if a, b := x.p.Kth(who, at, k); a != end || b != ok {
		t.Fatalf("%v: Kth(%d, %d, %d) = %d, %v; want %d, %v", x.slots, who, at, k, a, b, end, ok)
	}
}

// same holds all that is to be seen of the plan, at a time, against the model.
func (x pair) same(t *testing.T, at uint64) {
	t.Helper()
	x.sameAt(t, at)
	for who := -1; who <= api.MaxTenants; who++ {
		x.sameNext(t, who, at)
		for _, k := range x.counts(who) {
			x.sameKth(t, who, at, k)
		}
	}
}

// counts are k below 1, 1, beside as many as a cycle has, more, and so many that no time is left.
func (x pair) counts(who int) []int {
	each := 0
	for _, s := range x.slots {
		if s.Owner == who {
			each++
		}
	}
	return []int{math.MinInt, -1, 0, 1, 2, each - 1, each, each + 1, 2 * each, 5*each + 1, 1000, 1 << 40, math.MaxInt - 1, math.MaxInt}
}

// plan is slots, and for how many tenants.
type plan struct {
	slots   []api.Slot
	tenants int
}

// of is slots of owners and lengths, one behind the other.
func of(tenants int, numbers ...int) plan {
	p := plan{tenants: tenants}
	for pair := range slices.Chunk(numbers, 2) {
		p.slots = append(p.slots, api.Slot{Owner: pair[0], Len: pair[1]})
	}
	return p
}

// many is as many slots as said, of all tenants in turn, of lengths from 1 on, up to the longest.
func many(slots, tenants, longest int) plan {
	p := plan{tenants: tenants}
	for i := range slots {
		p.slots = append(p.slots, api.Slot{Owner: i * 11 % tenants, Len: 1 + i*7%longest})
	}
	return p
}

// plans are plans that are right: of one slot and more, short and long ones, of one tenant up to eight.
func plans() []plan {
	return []plan{
		of(1, 0, 1),
		of(1, 0, 2),
		of(1, 0, 1000),
		of(1, 0, 3, 0, 1),
		of(2, 0, 1, 1, 1),
		of(2, 1, 1, 0, 1),
		of(2, 0, 3, 1, 2, 0, 1),
		of(2, 1, 3, 0, 2, 1, 1),
		of(3, 2, 1, 2, 1, 0, 4, 1, 1, 2, 3),
		of(3, 0, 1000, 1, 1, 2, 999),
		of(8, 7, 1, 6, 2, 5, 3, 4, 4, 3, 5, 2, 6, 1, 7, 0, 8),
		many(64, 1, 1),
		many(64, 3, 4),
		many(64, 8, 9),
		many(63, 8, 2),
	}
}

// longest is the plan whose cycle is the longest there is.
func longest() plan {
	p := many(64, 8, 1)
	for i := range p.slots {
		p.slots[i].Len = 1000
	}
	return p
}

func (p plan) pair(t *testing.T) pair {
	t.Helper()
	return newPair(t, p.slots, p.tenants)
}

// times are where slots begin and end, ahead of that and behind it, in the first cycles, later ones, and the last ones.
func (x pair) times() []uint64 {
	cycle := x.m.cycle()
	last := greatest - greatest%cycle
	var list []uint64
	for _, first := range []uint64{0, cycle, 2 * cycle, 1000 * cycle, (1 << 40) * cycle, last / 2 / cycle * cycle, last - cycle, last} {
		for _, s := range x.m.slots {
			for _, t := range []uint64{first + s.begin, first + s.end} {
				list = append(list, t-1, t, t+1) // behind 2^64 it is 0 again, which is good too
			}
		}
	}
	for _, ticks := range []uint64{0, 1, 2, cycle - 1, cycle, cycle + 1} {
		list = append(list, ticks, greatest-ticks)
	}
	slices.Sort(list)
	return slices.Compact(list)
}

// The chapter's example, and the document's.
func TestExample(t *testing.T) {
	p, err := Of([]api.Slot{{Owner: 0, Len: 3}, {Owner: 1, Len: 2}, {Owner: 0, Len: 1}}, 2)
	if err != api.OK || p.Cycle() != 6 {
		t.Errorf("Of: %d, a cycle of %d", err, p.Cycle())
	}
	if who, end := p.At(5); who != 1 || !end {
		t.Errorf("At(5) = %d, %v", who, end)
	}
	if begin, end, ok := p.Next(0, 4); begin != 5 || end != 6 || !ok {
		t.Errorf("Next(0, 4) = %d, %d, %v", begin, end, ok)
	}
	if end, ok := p.Kth(0, 4, 2); end != 9 || !ok {
		t.Errorf("Kth(0, 4, 2) = %d, %v", end, ok)
	}
}

// refused asks of slots that they make no plan.
func refused(t *testing.T, slots []api.Slot, tenants int) {
	t.Helper()
	if p, err := Of(slots, tenants); err != api.ErrConfig || p != (Plan{}) {
		t.Errorf("Of(%v, %d): %d, %v", slots, tenants, err, p)
	}
}

// P9.1, P1: how many slots there may be: from 1 to 64.
func TestCountOfSlots(t *testing.T) {
	for _, tenants := range []int{1, 2, 8} {
		for _, count := range []int{0, 1, 2, 7, 8, 9, 63, 64, 65, 66, 128, 5000} {
			slots := many(count, tenants, 3).slots
			if count < tenants || count > 64 {
				refused(t, slots, tenants)
			} else {
				newPair(t, slots, tenants)
			}
		}
		refused(t, nil, tenants)
		refused(t, []api.Slot{}, tenants)
	}
}

// P9.1, P1: how many tenants there may be: from 1 to 8.
func TestCountOfTenants(t *testing.T) {
	for _, tenants := range []int{math.MinInt, -8, -1, 0, 9, 10, 64, 65, 1 << 32, math.MaxInt} {
		refused(t, nil, tenants)
		refused(t, of(1, 0, 1).slots, tenants)
		refused(t, many(64, 9, 2).slots, tenants)
		refused(t, many(64, 64, 2).slots, tenants)
	}
	for tenants := 1; tenants <= 8; tenants++ {
		newPair(t, many(tenants, tenants, 1).slots, tenants)
	}
}

// P9.1, P1: owners are from 0 to tenants - 1, wherever their slots stand.
func TestOwners(t *testing.T) {
	for tenants := 1; tenants <= 8; tenants++ {
		for _, owner := range []int{math.MinInt, -8, -1, tenants, tenants + 1, 8, 9, 1 << 32, math.MaxInt} {
			if owner >= 0 && owner < tenants {
				continue
			}
			for _, place := range []int{0, tenants / 2, tenants} {
				slots := slices.Insert(many(tenants, tenants, 1).slots, place, api.Slot{Owner: owner, Len: 1})
				refused(t, slots, tenants)
			}
			refused(t, []api.Slot{{Owner: owner, Len: 1}}, tenants)
		}
	}
}

// P9.1, P1: lengths are from 1 to 1000, wherever their slots stand.
func TestLengths(t *testing.T) {
	for _, length := range []int{math.MinInt, -1000, -1, 0, 1, 2, 999, 1000, 1001, 1002, 1 << 32, math.MaxInt} {
		for place := range 3 {
			slots := []api.Slot{{Owner: 0, Len: 5}, {Owner: 1, Len: 5}, {Owner: 0, Len: 5}}
			slots[place].Len = length
			if length < 1 || length > 1000 {
				refused(t, slots, 2)
			} else if x := newPair(t, slots, 2); x.p.Cycle() != uint64(10+length) {
				t.Errorf("Of(%v): a cycle of %d", slots, x.p.Cycle())
			}
		}
	}
}

// P9.1: a tenant without a slot, whichever it is, however many slots the others have.
func TestTenantWithoutSlot(t *testing.T) {
	for tenants := 1; tenants <= 8; tenants++ {
		for none := range tenants {
			var slots []api.Slot
			for i := range 64 {
				if i%tenants != none {
					slots = append(slots, api.Slot{Owner: i % tenants, Len: 1})
				}
			}
			refused(t, slots, tenants)
			slots = append(slots[:min(len(slots), 63)], api.Slot{Owner: none, Len: 1})
			newPair(t, slots, tenants)
		}
	}
}

// isPlan tells by the document's words whether slots make a plan.
func isPlan(slots []api.Slot, tenants int) bool {
	if len(slots) == 0 || len(slots) > 64 || tenants < 1 || tenants > 8 {
		return false
	}
	owners := map[int]int{}
	for _, s := range slots {
		if s.Owner < 0 || s.Owner > tenants-1 || s.Len < 1 || s.Len > 1000 {
			return false
		}
		owners[s.Owner]++
	}
	return len(owners) == tenants
}

// P9.1: all plans of up to three slots, right and wrong, of owners and lengths beside their bounds.
func TestEverySmallPlan(t *testing.T) {
	var kinds []api.Slot
	for _, owner := range []int{-1, 0, 1, 2, 3} {
		for _, length := range []int{0, 1, 2, 1000, 1001} {
			kinds = append(kinds, api.Slot{Owner: owner, Len: length})
		}
	}
	lists := [][]api.Slot{nil}
	for first := 0; first < len(lists); first++ {
		if slots := lists[first]; len(slots) < 3 {
			for _, kind := range kinds {
				lists = append(lists, append(slices.Clone(slots), kind))
			}
		}
	}
	for _, slots := range lists {
		for tenants := range 5 {
			if !isPlan(slots, tenants) {
				refused(t, slots, tenants)
				continue
			}
			x := newPair(t, slots, tenants)
			if x.p.Cycle() != x.m.cycle() {
				t.Fatalf("%v: Cycle = %d", slots, x.p.Cycle())
			}
		}
	}
}

// P9.1: how many ticks a cycle has, from the shortest one to the longest.
func TestCycle(t *testing.T) {
	for _, p := range append(plans(), longest()) {
		if x := p.pair(t); x.p.Cycle() != x.m.cycle() {
			t.Errorf("%v: Cycle = %d; want %d", p, x.p.Cycle(), x.m.cycle())
		}
	}
	if x := longest().pair(t); x.p.Cycle() != 64000 {
		t.Errorf("the longest one: Cycle = %d", x.p.Cycle())
	}
}

// P9.1, P1: of a Plan that Of didn't tell each call ends, and tells nothing.
func TestNoPlan(t *testing.T) {
	_, err := Of(nil, 1)
	wrong, _ := Of([]api.Slot{{Owner: 0, Len: 9}, {Owner: 3, Len: 9}}, 2)
	if err != api.ErrConfig {
		t.Errorf("Of: %d", err)
	}
	for _, p := range []Plan{{}, wrong} {
		if p.Cycle() != 0 {
			t.Errorf("Cycle = %d", p.Cycle())
		}
		for _, at := range []uint64{0, 1, 5, 1 << 40, greatest} {
			if who, end := p.At(at); who != 0 || end {
				t.Errorf("At(%d) = %d, %v", at, who, end)
			}
			for _, who := range []int{math.MinInt, -1, 0, 1, 8, math.MaxInt} {
				if begin, end, ok := p.Next(who, at); begin != 0 || end != 0 || ok {
					t.Errorf("Next(%d, %d) = %d, %d, %v", who, at, begin, end, ok)
				}
				for _, k := range []int{math.MinInt, 0, 1, 2, math.MaxInt} {
					if end, ok := p.Kth(who, at, k); end != 0 || ok {
						t.Errorf("Kth(%d, %d, %d) = %d, %v", who, at, k, end, ok)
					}
				}
			}
		}
	}
}

// P9.1: each call at the edges of all slots, in the first cycles, later ones and the last ones.
func TestEdges(t *testing.T) {
	for _, p := range append(plans(), longest()) {
		x := p.pair(t)
		for _, at := range x.times() {
			x.same(t, at)
		}
	}
}

// P9.1: each call at each time of the first cycles, and of the last ones.
func TestEachTime(t *testing.T) {
	for _, p := range plans() {
		x := p.pair(t)
		for i := range min(3*x.m.cycle(), 150) {
			x.same(t, i)
			x.same(t, greatest-i)
		}
	}
}

// P9.1, P1: tenants that there are not have no slot, nor has anybody one at a k below 1.
func TestNoSuchSlot(t *testing.T) {
	for _, p := range plans() {
		x := p.pair(t)
		for _, at := range []uint64{0, 1, 77, greatest} {
			for _, who := range []int{math.MinInt, -8, -1, p.tenants, p.tenants + 1, 8, 9, 64, 1 << 32, math.MaxInt} {
				x.sameNext(t, who, at)
				for _, k := range []int{math.MinInt, -1, 0, 1, 2, math.MaxInt} {
					x.sameKth(t, who, at, k)
				}
			}
			for _, k := range []int{math.MinInt, math.MinInt + 1, -64, -1, 0} {
				if end, ok := x.p.Kth(0, at, k); end != 0 || ok {
					t.Errorf("Kth(0, %d, %d) = %d, %v", at, k, end, ok)
				}
			}
		}
	}
}

// P9.2: tick by tick each is one tenant's, as long as its slot is; slots end where the next ones begin; each cycle is
// as the first one is.
func TestEachTickIsOneTenants(t *testing.T) {
	for _, p := range plans() {
		x := p.pair(t)
		cycle := x.p.Cycle()
		last := greatest - greatest%cycle
		for _, first := range []uint64{0, cycle, 5 * cycle, 1 << 30 * cycle, last - cycle} {
			at := first
			for i, s := range p.slots {
				for tick := range s.Len {
					at++
					if who, end := x.p.At(at); who != s.Owner || end != (tick == s.Len-1) {
						t.Fatalf("%v: slot %d, tick %d, At(%d) = %d, %v", p, i, tick, at, who, end)
					}
				}
			}
			if at != first+cycle {
				t.Fatalf("%v: a cycle from %d on ends at %d", p, first, at)
			}
		}
	}
}

// P9.2: each tenant has the same ticks in each cycle: whatever is asked, at whatever times, ahead of it.
func TestSameTicksInEachCycle(t *testing.T) {
	for _, p := range plans() {
		x := p.pair(t)
		cycle := x.p.Cycle()
		for i := uint64(1); i <= cycle; i++ {
			who, end := x.p.At(i)
			for _, cycles := range []uint64{1, 2, 99, 1 << 32, greatest/cycle - 1} {
				if a, b := x.p.At(i + cycles*cycle); a != who || b != end {
					t.Fatalf("%v: At(%d) = %d, %v; in a later cycle %d, %v", p, i, who, end, a, b)
				}
			}
			x.p.Next(who, i)
			x.p.Kth(who, i, int(i))
		}
	}
}

// P9.1: from each slot's end on, the slots of a tenant come one behind the other, none left out; the k-th one is where
// as many steps come to; and At tells each one's ticks, and its end.
func TestOneBehindTheOther(t *testing.T) {
	for _, p := range plans() {
		x := p.pair(t)
		for who := range p.tenants {
			for _, from := range []uint64{0, 1, x.p.Cycle() - 1, 12345} {
				var want []slot
				for _, s := range x.m.slotsFrom(from) {
					if s.owner == who {
						want = append(want, s)
					}
				}
				now := from
				for k, s := range want {
					begin, end, ok := x.p.Next(who, now)
					if begin != s.begin || end != s.end || !ok {
						t.Fatalf("%v: Next(%d, %d) = %d, %d, %v; want %v", p, who, now, begin, end, ok, s)
					}
					if kth, ok := x.p.Kth(who, from, k+1); kth != end || !ok {
						t.Fatalf("%v: Kth(%d, %d, %d) = %d, %v; want %d", p, who, from, k+1, kth, ok, end)
					}
					if owner, is := x.p.At(end); owner != who || !is {
						t.Fatalf("%v: At(%d) = %d, %v", p, end, owner, is)
					}
					now = end
				}
			}
		}
	}
}

// slotsFrom is all slots that begin at a time, or later, of the next four cycles.
func (m *model) slotsFrom(from uint64) []slot {
	var list []slot
	first := from / m.cycle() * m.cycle()
	for range 4 {
		for _, s := range m.slots {
			if first+s.begin >= from {
				list = append(list, slot{owner: s.owner, begin: first + s.begin, end: first + s.end})
			}
		}
		first += m.cycle()
	}
	return list
}

// P9.1: a slot may end at 2^64 - 1, and not at 2^64, or later, near or far from the time that is asked.
func TestLastSlot(t *testing.T) {
	for _, c := range []struct {
		length, begin, end uint64
	}{
		{length: 1, begin: greatest - 1, end: greatest},
		{length: 2, begin: greatest - 3, end: greatest - 1},
		{length: 3, begin: greatest - 3, end: greatest},
		{length: 5, begin: greatest - 5, end: greatest},
		{length: 7, begin: greatest - 8, end: greatest - 1},
	} {
		p, _ := Of([]api.Slot{{Owner: 0, Len: int(c.length)}}, 1)
		if begin, end, ok := p.Next(0, c.begin); begin != c.begin || end != c.end || !ok {
			t.Errorf("%v: Next = %d, %d, %v", c, begin, end, ok)
		}
		if begin, end, ok := p.Next(0, c.begin+1); begin != 0 || end != 0 || ok {
			t.Errorf("%v: one tick later Next = %d, %d, %v", c, begin, end, ok)
		}
		if end, ok := p.Kth(0, c.begin-5*c.length, 6); end != c.end || !ok {
			t.Errorf("%v: Kth = %d, %v", c, end, ok)
		}
		if end, ok := p.Kth(0, c.begin-5*c.length, 7); end != 0 || ok {
			t.Errorf("%v: one more, Kth = %d, %v", c, end, ok)
		}
		if end, ok := p.Kth(0, c.begin-5*c.length+1, 6); end != 0 || ok {
			t.Errorf("%v: one tick later Kth = %d, %v", c, end, ok)
		}
	}
}

// P9.1: the greatest k whose slot ends in time, and the first one that doesn't, from times near and far.
func TestGreatestK(t *testing.T) {
	for _, p := range append(plans(), longest()) {
		x := p.pair(t)
		for who := range p.tenants {
			for _, from := range []uint64{0, 1, 1 << 40, 1 << 63, greatest - 1<<20, greatest - 100, greatest} {
				good, bad := 0, math.MaxInt
				for good+1 < bad {
					k := good + (bad-good)/2
					if _, _, ok := x.m.kth(who, from, k); ok {
						good = k
					} else {
						bad = k
					}
				}
				for _, k := range []int{good - 1, good, bad, bad + min(1, math.MaxInt-bad), bad + min(100, math.MaxInt-bad)} {
					x.sameKth(t, who, from, k)
				}
			}
		}
	}
}

// steps is a fixed run of numbers, to make plans and times of.
func steps(count int) []uint64 {
	list := make([]uint64, 0, count)
	x := uint64(0xD1B54A32D192ED03)
	for range count {
		x ^= x << 13
		x ^= x >> 7
		x ^= x << 17
		list = append(list, x)
	}
	return list
}

// P9.1: mixed plans, at mixed times, with mixed k.
func TestMixedPlans(t *testing.T) {
	for count := 1; count <= 64; count += 3 {
		for i, seed := range steps(12) {
			tenants := 1 + int(seed%8)
			slots := make([]api.Slot, 0, count)
			for _, step := range steps(count + i)[i:] {
				slots = append(slots, api.Slot{Owner: int((step ^ seed) % uint64(tenants)), Len: 1 + int(step>>20%uint64(1+seed>>30%40))})
			}
			if !isPlan(slots, tenants) {
				refused(t, slots, tenants)
				continue
			}
			x := newPair(t, slots, tenants)
			for _, step := range steps(20) {
				x.same(t, step)
				x.same(t, step>>(step%64))
				x.sameKth(t, int(step%8), step>>20%5000, int(step>>(step%63+1)))
			}
		}
	}
}

// Rules: slots that are handed in are neither changed, behind their length neither, nor kept.
func TestSlotsAreNotKept(t *testing.T) {
	room := many(64, 3, 4).slots
	for _, count := range []int{3, 10, 64} {
		kept := slices.Clone(room)
		x := newPair(t, room[:count], 3)
		if !slices.Equal(room, kept) {
			t.Fatal("slots were changed")
		}
		for i := range room {
			room[i] = api.Slot{Owner: -1, Len: 1000}
		}
		for at := range uint64(300) {
			x.same(t, at)
		}
		copy(room, kept)
	}
	refused(t, append(room[:5:5], api.Slot{Owner: 3, Len: 1}), 3)
}

// P2, P3: plans are apart, copies too, and those of the same slots are alike.
func TestPlansAreApart(t *testing.T) {
	for i, p := range plans() {
		for j, q := range plans() {
			x, y := p.pair(t), q.pair(t)
			copied := x.p
			if (x.p == y.p) != (i == j) || copied != x.p {
				t.Fatalf("%v and %v: alike: %v", p, q, x.p == y.p)
			}
			x.same(t, 77)
			y.same(t, 77)
		}
	}
}
