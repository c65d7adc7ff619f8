package caps

import (
	"math"
	"slices"
	"testing"

	"nightjar/api"
	"nightjar/slab"
)

// place is a place as the document's words have it: how many handles it has had, and what the one stands for that is out.
type place struct {
	had int
	out bool
	cap Cap
}

// model is a table, place by place, that knows all handles it ever made.
type model struct {
	places []place
	gens   int
	made   map[uint64]int
}

func newModel(room, gens int) *model {
	return &model{places: make([]place, room), gens: heldGens(gens), made: map[uint64]int{}}
}

func heldGens(gens int) int {
	switch {
	case gens < 1:
		return 1
	case gens > 16777215:
		return 16777215
	}
	return gens
}

// low is what the lowest bits of a number come to, reckoned without bits.
func low(n, size int) int {
	return (n%size + size) % size
}

// bitsOf is a handle's bits, reckoned without bits.
func bitsOf(slot, gen, rights int) uint64 {
	return uint64(gen)*16777216 + uint64(low(slot, 65536))*256 + uint64(low(rights, 256))
}

func (m *model) mint(c Cap) (uint64, api.Errno) {
	c.Rights = low(c.Rights, 256)
	for k := range m.places {
		p := &m.places[k]
		if !p.out && p.had < m.gens {
			*p = place{had: p.had + 1, out: true, cap: c}
			h := bitsOf(k, p.had, c.Rights)
			m.made[h]++
			return h, api.OK
		}
	}
	return 0, api.ErrQuota
}

// find is the place of a handle that is out, or -1.
func (m *model) find(h uint64) int {
	return slices.Index(m.live(), h)
}

// live is the handles by places: 0, which is none, where there is none out.
func (m *model) live() []uint64 {
	list := make([]uint64, len(m.places))
	for k, p := range m.places {
		if p.out {
			list[k] = bitsOf(k, p.had, p.cap.Rights)
		}
	}
	return list
}

func (m *model) look(h uint64) (Cap, api.Errno) {
	if h == 0 || m.find(h) < 0 {
		return Cap{}, api.ErrBadHandle
	}
	return m.places[m.find(h)].cap, api.OK
}

func (m *model) revoke(h uint64) api.Errno {
	if _, err := m.look(h); err != api.OK {
		return err
	}
	m.places[m.find(h)].out = false
	return api.OK
}

func (m *model) need(h uint64, kind, rights int) (int, api.Errno) {
	c, err := m.look(h)
	if err != api.OK {
		return 0, err
	}
	if c.Kind != kind {
		return 0, api.ErrKind
	}
	for bit := range 64 {
		if rights>>bit&1 == 1 && (bit >= 8 || c.Rights>>bit&1 == 0) {
			return 0, api.ErrRights
		}
	}
	return c.Index, api.OK
}

func (m *model) dead() int {
	n := 0
	for _, p := range m.places {
		if !p.out && p.had == m.gens {
			n++
		}
	}
	return n
}

func (m *model) of(kind, index int) int {
	n := 0
	for _, p := range m.places {
		if p.out && p.cap.Kind == kind && p.cap.Index == index {
			n++
		}
	}
	return n
}

func mintBoth(t *testing.T, tab *Table, m *model, c Cap) uint64 {
	t.Helper()
	want, is := m.mint(c)
	h, err := tab.Mint(c)
	if h != want || err != is {
		t.Fatalf("Mint(%v) = %x, %d; want %x, %d", c, h, err, want, is)
	}
	if err == api.OK && m.made[h] != 1 {
		t.Fatalf("%x is made a second time", h)
	}
	return h
}

func revokeBoth(t *testing.T, tab *Table, m *model, h uint64) {
	t.Helper()
	want := m.revoke(h)
	if err := tab.Revoke(h); err != want {
		t.Fatalf("Revoke(%x) = %d; want %d", h, err, want)
	}
}

func sameLook(t *testing.T, tab *Table, m *model, h uint64) {
	t.Helper()
	want, is := m.look(h)
	if c, err := tab.Look(h); c != want || err != is {
		t.Fatalf("Look(%x) = %v, %d; want %v, %d", h, c, err, want, is)
	}
	for _, kind := range []int{want.Kind, want.Kind + 1} {
		for _, rights := range []int{0, want.Rights, 15, 256} {
			sameNeed(t, tab, m, h, kind, rights)
		}
	}
}

func sameNeed(t *testing.T, tab *Table, m *model, h uint64, kind, rights int) {
	t.Helper()
	want, is := m.need(h, kind, rights)
	if k, err := tab.Need(h, kind, rights); k != want || err != is {
		t.Fatalf("Need(%x, %d, %d) = %d, %d; want %d, %d", h, kind, rights, k, err, want, is)
	}
}

func sameOf(t *testing.T, tab *Table, m *model, kind, index int) {
	t.Helper()
	if got := tab.Of(kind, index); got != m.of(kind, index) {
		t.Fatalf("Of(%d, %d) = %d; want %d", kind, index, got, m.of(kind, index))
	}
}

// same holds all that is to be seen of a table against the model: all handles that ever were, too.
func same(t *testing.T, tab *Table, m *model) {
	t.Helper()
	live := slices.DeleteFunc(m.live(), func(h uint64) bool { return h == 0 })
	if got := tab.Live(); !slices.Equal(got, live) {
		t.Fatalf("Live = %x; want %x", got, live)
	}
	if tab.Count() != len(live) || tab.Dead() != m.dead() {
		t.Fatalf("Count, Dead = %d, %d; want %d, %d", tab.Count(), tab.Dead(), len(live), m.dead())
	}
	for h := range m.made {
		sameLook(t, tab, m, h)
	}
	for kind := -1; kind < 4; kind++ {
		for index := -1; index < 6; index++ {
			sameOf(t, tab, m, kind, index)
		}
	}
}

// both is a new table in a region of its own, and its model.
func both(room, gens int) (*Table, *model) {
	return New(slab.New[Row]([]int{room}).Region(0), gens), newModel(room, gens)
}

// wild are numbers of all kinds.
func wild() []int {
	return []int{math.MinInt, math.MinInt + 1, -65537, -65536, -257, -256, -1, 0, 1, 2, 127, 128, 254, 255, 256, 257, 32768, 65534, 65535, 65536, 65537, 1 << 24, 1 << 32, math.MaxInt - 1, math.MaxInt}
}

// neverMade are bits that are no handle of a table, whatever is out: places and generations that there are none of.
func neverMade() []uint64 {
	list := []uint64{0, 1, 15, 255, math.MaxUint64, math.MaxUint64 - 255, 1 << 63}
	for _, slot := range []int{0, 1, 2, 255, 256, 257, 65535} {
		for _, rights := range []int{0, 7, 15, 255} {
			list = append(list, bitsOf(slot, 0, rights), bitsOf(slot, 1<<24, rights), bitsOf(slot, 1<<40-1, rights))
		}
	}
	return list
}

// The document's example.
func TestExample(t *testing.T) {
	tab := New(slab.New[Row]([]int{1}).Region(0), 2)
	first, err := tab.Mint(Cap{Kind: Timer, Index: 3, Rights: 15})
	if err != api.OK || first != 1<<24|15 {
		t.Errorf("Mint = %x, %d", first, err)
	}
	if h, err := tab.Mint(Cap{Kind: Dev}); h != 0 || err != api.ErrQuota {
		t.Errorf("a second one: %x, %d", h, err)
	}
	if err := tab.Revoke(first); err != api.OK {
		t.Errorf("Revoke = %d", err)
	}
	second, err := tab.Mint(Cap{Kind: Timer, Index: 3, Rights: 15})
	if err != api.OK || second == first || second != 2<<24|15 {
		t.Errorf("Mint = %x, %d", second, err)
	}
	if err := tab.Revoke(second); err != api.OK {
		t.Errorf("Revoke = %d", err)
	}
	if h, err := tab.Mint(Cap{Kind: Timer, Index: 3, Rights: 15}); h != 0 || err != api.ErrQuota {
		t.Errorf("a third one: %x, %d", h, err)
	}
}

// P5.1: of slot and rights the lowest 16 and 8 bits count, of generations all up to 2^40 - 1; what bits tell is what was put in.
func TestBits(t *testing.T) {
	gens := []int{0, 1, 2, 255, 65536, 1<<24 - 1, 1 << 24, 1<<39 - 1, 1 << 39, 1<<40 - 2, 1<<40 - 1}
	for _, slot := range wild() {
		for _, rights := range wild() {
			for _, gen := range gens {
				h := Pack(slot, gen, rights)
				if want := bitsOf(slot, gen, rights); h != want {
					t.Fatalf("Pack(%d, %d, %d) = %x; want %x", slot, gen, rights, h, want)
				}
				s, g, r := Parts(h)
				if s != low(slot, 65536) || g != uint64(gen) || r != low(rights, 256) {
					t.Fatalf("Parts(%x) = %d, %d, %d; want %d, %d, %d", h, s, g, r, slot, gen, rights)
				}
			}
		}
	}
}

// P5.1: each bit of a handle tells one of its parts, and goes back to where it was.
func TestParts(t *testing.T) {
	for bit := range 64 {
		h := uint64(1) << bit
		want := [3]uint64{h / 256 % 65536, h / 16777216, h % 256}
		s, g, r := Parts(h)
		if got := [3]uint64{uint64(s), g, uint64(r)}; got != want {
			t.Errorf("Parts(%x) = %v; want %v", h, got, want)
		}
		if got := Pack(s, int(g), r); got != h {
			t.Errorf("Pack of Parts(%x) = %x", h, got)
		}
	}
	if s, g, r := Parts(math.MaxUint64); s != 65535 || g != 1<<40-1 || r != 255 {
		t.Errorf("Parts of all bits = %d, %d, %d", s, g, r)
	}
	if s, g, r := Parts(0); s != 0 || g != 0 || r != 0 {
		t.Errorf("Parts(0) = %d, %d, %d", s, g, r)
	}
}

// P1: of generations of which nothing is said Pack ends.
func TestPackEnds(t *testing.T) {
	for _, gen := range []int{math.MinInt, -1, 1 << 40, math.MaxInt} {
		for _, n := range wild() {
			Pack(n, gen, n)
		}
	}
}

// P5.1: there are as many handles as places, of none, of one and of several; the next one is refused, and turns nothing.
func TestRooms(t *testing.T) {
	for _, room := range []int{0, 1, 2, 3, 64, 65, 255, 256} {
		tab, m := both(room, 3)
		same(t, tab, m)
		for i := range room + 2 {
			mintBoth(t, tab, m, Cap{Kind: Timer, Index: i % 6, Rights: i})
		}
		same(t, tab, m)
		for _, h := range m.live() {
			revokeBoth(t, tab, m, h)
		}
		same(t, tab, m)
	}
}

// P1: a region that a slab hasn't has no place.
func TestNoRegion(t *testing.T) {
	tab, m := New(slab.New[Row](nil).Region(0), 3), newModel(0, 3)
	mintBoth(t, tab, m, Cap{Kind: Timer})
	for _, h := range neverMade() {
		revokeBoth(t, tab, m, h)
		sameLook(t, tab, m, h)
	}
	same(t, tab, m)
}

// wear makes handles in a place till it is used up, and is how many there were.
func wear(t *testing.T, tab *Table) int {
	t.Helper()
	// No place may have more than 2^24 - 1, so a table that goes on and on is found out.
	for n := range 1 << 24 {
		h, err := tab.Mint(Cap{Kind: Dev, Index: 1, Rights: 5})
		if err != api.OK {
			return n
		}
		if h != bitsOf(0, n+1, 5) || tab.Revoke(h) != api.OK {
			t.Fatalf("handle %d = %x", n+1, h)
		}
	}
	return 1 << 24
}

// P5.1, P5.2: gens below 1 count as 1; behind its last handle a place gives none, for ever.
func TestFewGens(t *testing.T) {
	for _, gens := range []int{math.MinInt, -16777215, -1, 0, 1, 2, 3, 100} {
		tab, m := both(1, gens)
		if n := wear(t, tab); n != heldGens(gens) {
			t.Errorf("gens %d: %d handles", gens, n)
		}
		for range m.gens + 1 {
			h, _ := m.mint(Cap{Kind: Dev, Index: 1, Rights: 5})
			m.revoke(h)
		}
		same(t, tab, m)
		for range 3 {
			mintBoth(t, tab, m, Cap{Kind: Timer})
			same(t, tab, m)
		}
	}
}

// P5.1, P5.2: gens above 2^24 - 1 count as that; the last generation fits a handle's bits.
func TestManyGens(t *testing.T) {
	for _, gens := range []int{1<<24 - 2, 1<<24 - 1, 1 << 24, 1<<24 + 1, 1 << 40, math.MaxInt} {
		t.Run("", func(t *testing.T) {
			t.Parallel()
			tab, _ := both(1, gens)
			if n := wear(t, tab); n != heldGens(gens) {
				t.Errorf("gens %d: %d handles", gens, n)
			}
			if tab.Dead() != 1 || tab.Count() != 0 {
				t.Errorf("gens %d: Dead, Count = %d, %d", gens, tab.Dead(), tab.Count())
			}
		})
	}
}

// P5.1: a handle has the lowest 8 bits of its Rights, and stands for a thing of any kind and number.
func TestLook(t *testing.T) {
	for _, n := range wild() {
		for _, rights := range wild() {
			tab, m := both(2, 1)
			h := mintBoth(t, tab, m, Cap{Kind: n, Index: n, Rights: rights})
			other := mintBoth(t, tab, m, Cap{Kind: Timer, Index: -n, Rights: rights + 1})
			sameLook(t, tab, m, h)
			sameLook(t, tab, m, other)
			sameOf(t, tab, m, n, n)
		}
	}
}

// P5.1: the errors of Need come in their order; one right too few is told, and so is one that no handle has.
func TestNeed(t *testing.T) {
	for rights := range 256 {
		tab, m := both(2, 2)
		h := mintBoth(t, tab, m, Cap{Kind: Timer, Index: 7, Rights: rights})
		for bit := range 8 {
			for _, kind := range []int{Timer, Dev, 0, -1, math.MaxInt} {
				sameNeed(t, tab, m, h, kind, 1<<bit)
				sameNeed(t, tab, m, h, kind, rights|1<<bit)
				sameNeed(t, tab, m, h, kind, rights&^(1<<bit))
			}
		}
		for _, need := range wild() {
			sameNeed(t, tab, m, h, Timer, need)
			sameNeed(t, tab, m, h, Dev, need)
		}
	}
}

// P5.1: what Need answers, case by case.
func TestNeedOfKnownHandles(t *testing.T) {
	tab, _ := both(3, 2)
	all, _ := tab.Mint(Cap{Kind: Timer, Index: 9, Rights: -1})
	few, _ := tab.Mint(Cap{Kind: Dev, Index: -4, Rights: api.MayArm | api.MayRead})
	gone, _ := tab.Mint(Cap{Kind: Dev, Index: 3, Rights: api.MayAll})
	tab.Revoke(gone)
	for i, c := range []struct {
		h            uint64
		kind, rights int
		index        int
		err          api.Errno
	}{
		{all, Timer, 255, 9, api.OK},
		{all, Timer, 0, 9, api.OK},
		{all, Timer, 256, 0, api.ErrRights},
		{all, Timer, -1, 0, api.ErrRights},
		{all, Timer, math.MinInt, 0, api.ErrRights},
		{all, Dev, 255, 0, api.ErrKind},
		{few, Dev, api.MayArm | api.MayRead, -4, api.OK},
		{few, Dev, api.MayArm | api.MayStop | api.MayRead, 0, api.ErrRights},
		{few, Dev, api.MayAll, 0, api.ErrRights},
		{few, Timer, api.MayAll, 0, api.ErrKind},
		{gone, Dev, 0, 0, api.ErrBadHandle},
		{gone, Timer, 256, 0, api.ErrBadHandle},
		{few ^ 1, Dev, 0, 0, api.ErrBadHandle},
	} {
		if index, err := tab.Need(c.h, c.kind, c.rights); index != c.index || err != c.err {
			t.Errorf("case %d: %d, %d; want %d, %d", i, index, err, c.index, c.err)
		}
	}
}

// P5.1, P5.2, P4: bits that differ from a handle by one are none; to ask for them, or revoke them, turns nothing.
func TestMadeUpHandles(t *testing.T) {
	tab, m := both(5, 2)
	for i := range 5 {
		mintBoth(t, tab, m, Cap{Kind: 1 + i%2, Index: i, Rights: 3 * i})
	}
	used := m.live()[1]
	revokeBoth(t, tab, m, used)
	revokeBoth(t, tab, m, mintBoth(t, tab, m, Cap{}))
	revokeBoth(t, tab, m, m.live()[3])
	list := append(neverMade(), used)
	for _, h := range m.live() {
		for bit := range 64 {
			list = append(list, h^1<<bit)
		}
	}
	for _, h := range list {
		sameLook(t, tab, m, h)
		revokeBoth(t, tab, m, h)
	}
	same(t, tab, m)
}

// P5.1: a place that becomes free is the first one again, with the next generation, whichever became free last.
func TestFirstPlaceAgain(t *testing.T) {
	tab, m := both(6, 9)
	for i := range 6 {
		mintBoth(t, tab, m, Cap{Kind: Timer, Index: i, Rights: 15})
	}
	for _, k := range []int{0, 5, 3} {
		revokeBoth(t, tab, m, m.live()[k])
		same(t, tab, m)
	}
	for _, want := range []uint64{bitsOf(0, 2, 1), bitsOf(3, 2, 1), bitsOf(5, 2, 1)} {
		if h := mintBoth(t, tab, m, Cap{Kind: Dev, Rights: 1}); h != want {
			t.Errorf("%x; want %x", h, want)
		}
		same(t, tab, m)
	}
	for gen := 3; gen <= 9; gen++ {
		revokeBoth(t, tab, m, m.live()[3])
		if h := mintBoth(t, tab, m, Cap{Kind: Dev}); h != bitsOf(3, gen, 0) {
			t.Errorf("generation %d: %x", gen, h)
		}
	}
}

// P5.1, P5.2: places are used up one by one, from the last, till none is left; the others are used all the same.
func TestUsedUp(t *testing.T) {
	for _, gens := range []int{1, 2, 3} {
		tab, m := both(4, gens)
		for range 4 {
			mintBoth(t, tab, m, Cap{})
		}
		for k := 3; k >= 0; k-- {
			for range gens {
				revokeBoth(t, tab, m, m.live()[k])
				same(t, tab, m)
				mintBoth(t, tab, m, Cap{})
				same(t, tab, m)
			}
			if tab.Dead() != 4-k {
				t.Fatalf("Dead = %d; want %d", tab.Dead(), 4-k)
			}
		}
		for range 3 {
			mintBoth(t, tab, m, Cap{Kind: Timer, Rights: 1})
		}
		for _, h := range neverMade() {
			sameLook(t, tab, m, h)
			revokeBoth(t, tab, m, h)
		}
		same(t, tab, m)
	}
}

// P5.1: a place with its last handle out isn't used up yet.
func TestLastHandleOut(t *testing.T) {
	tab, m := both(2, 1)
	mintBoth(t, tab, m, Cap{Kind: Timer, Index: 1, Rights: 2})
	mintBoth(t, tab, m, Cap{Kind: Timer, Index: 1, Rights: 2})
	same(t, tab, m)
	if tab.Dead() != 0 || tab.Of(Timer, 1) != 2 {
		t.Errorf("Dead, Of = %d, %d", tab.Dead(), tab.Of(Timer, 1))
	}
	revokeBoth(t, tab, m, m.live()[0])
	if tab.Dead() != 1 || tab.Of(Timer, 1) != 1 {
		t.Errorf("Dead, Of = %d, %d", tab.Dead(), tab.Of(Timer, 1))
	}
	same(t, tab, m)
}

// steps is a fixed run of numbers, to make calls of.
func steps(count int) []uint64 {
	list := make([]uint64, 0, count)
	x := uint64(0xA0761D6478BD642F)
	for range count {
		x ^= x << 13
		x ^= x >> 7
		x ^= x << 17
		list = append(list, x>>11)
	}
	return list
}

// turn makes one call of a step: with handles that are out, that were, and that never were.
func turn(t *testing.T, tab *Table, m *model, step uint64) {
	t.Helper()
	h := step
	if live := m.live(); len(live) > 0 {
		h = live[int(step>>8)%len(live)]
	}
	if step>>16%8 == 0 {
		h ^= 1 << (step >> 20 % 64)
	}
	c := Cap{Kind: int(step >> 24 % 3), Index: int(step >> 28 % 5), Rights: int(step>>32%600) - 300}
	switch step % 8 {
	case 0, 1, 2:
		mintBoth(t, tab, m, c)
	case 3, 4:
		revokeBoth(t, tab, m, h)
	case 5:
		sameNeed(t, tab, m, h, c.Kind, c.Rights&31)
	case 6:
		sameLook(t, tab, m, h)
	default:
		sameOf(t, tab, m, c.Kind, c.Index)
	}
}

// P5.1, P5.2: every call answers as said, in long mixed orders of calls, while places are used up.
func TestMixedOrder(t *testing.T) {
	for _, room := range []int{0, 1, 2, 5, 64, 256} {
		for _, gens := range []int{1, 2, 7, 1000, math.MaxInt} {
			tab, m := both(room, gens)
			for i, step := range steps(2000) {
				turn(t, tab, m, step)
				if i%200 == 0 {
					same(t, tab, m)
				}
			}
			same(t, tab, m)
		}
	}
}

// P5.1, P5.2: every order of seven calls, in a table of two places of two generations.
func TestEveryShortOrder(t *testing.T) {
	const calls, length = 4, 7
	orders := 1
	for range length {
		orders *= calls
	}
	for order := range orders {
		tab, m := both(2, 2)
		for rest, i := order, 0; i < length; rest, i = rest/calls, i+1 {
			switch k := rest % calls; k {
			case 0, 1:
				mintBoth(t, tab, m, Cap{Kind: k + 1, Index: i % 2, Rights: k * 7})
			default:
				revokeBoth(t, tab, m, m.live()[k-2])
			}
		}
		same(t, tab, m)
	}
}

// P5.1, P2, P3: tables side by side in one slab are as tables of their own, and leave the region between as it is.
func TestTablesAreApart(t *testing.T) {
	s := slab.New[Row]([]int{3, 2, 3, 0})
	between := Row{Gen: 9, Cap: Cap{Kind: 8, Index: 7, Rights: 6}}
	s.Region(1).Take(between)
	a, ma := New(s.Region(0), 4), newModel(3, 4)
	b, mb := New(s.Region(2), 2), newModel(3, 2)
	none, mn := New(s.Region(3), 2), newModel(0, 2)
	for i, step := range steps(600) {
		if step>>40%2 == 0 {
			turn(t, a, ma, step)
		} else {
			turn(t, b, mb, step)
		}
		turn(t, none, mn, step)
		if i%20 == 0 {
			same(t, a, ma)
			same(t, b, mb)
		}
	}
	same(t, a, ma)
	same(t, b, mb)
	same(t, none, mn)
	if row, ok := s.Region(1).At(0); row != between || !ok || s.Region(1).Count() != 1 {
		t.Errorf("between: %v, %v", row, ok)
	}
}

// P4: a handle of one table is none of another, unless that made the same bits too.
func TestHandlesOfAnotherTable(t *testing.T) {
	s := slab.New[Row]([]int{2, 2})
	a, b := New(s.Region(0), 5), New(s.Region(1), 5)
	h, _ := a.Mint(Cap{Kind: Timer, Index: 1, Rights: 15})
	if _, err := b.Look(h); err != api.ErrBadHandle {
		t.Errorf("Look = %d", err)
	}
	if err := b.Revoke(h); err != api.ErrBadHandle {
		t.Errorf("Revoke = %d", err)
	}
	if c, err := a.Look(h); err != api.OK || c != (Cap{Kind: Timer, Index: 1, Rights: 15}) {
		t.Errorf("Look = %v, %d", c, err)
	}
}

// Rules: what Live answers is new memory, spare room too.
func TestLiveIsNewMemory(t *testing.T) {
	tab, m := both(4, 2)
	for i := range 3 {
		mintBoth(t, tab, m, Cap{Kind: Dev, Index: i, Rights: 1})
	}
	kept := tab.Live()
	for range 2 {
		list := tab.Live()
		list = list[:cap(list)]
		for i := range list {
			list[i] = 77
		}
		same(t, tab, m)
	}
	want := slices.Clone(kept)
	revokeBoth(t, tab, m, m.live()[0])
	mintBoth(t, tab, m, Cap{Kind: Dev})
	mintBoth(t, tab, m, Cap{Kind: Dev})
	if !slices.Equal(kept, want) {
		t.Errorf("an answer was changed later: %x", kept)
	}
}
