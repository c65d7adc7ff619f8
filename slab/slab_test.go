package slab

import (
	"math"
	"slices"
	"testing"
)

// model is a region as the document's words have it: place by place, nil is a free one.
type model[T any] struct {
	places []*T
}

func newModel[T any](room int) *model[T] {
	return &model[T]{places: make([]*T, held(room))}
}

func held(room int) int {
	switch {
	case room < 0:
		return 0
	case room > 256:
		return 256
	}
	return room
}

func (m *model[T]) has(k int) bool {
	return k >= 0 && k < len(m.places) && m.places[k] != nil
}

func (m *model[T]) take(v T) (int, bool) {
	for k, p := range m.places {
		if p == nil {
			m.places[k] = &v
			return k, true
		}
	}
	return 0, false
}

func (m *model[T]) give(k int) bool {
	if !m.has(k) {
		return false
	}
	m.places[k] = nil
	return true
}

func (m *model[T]) at(k int) (T, bool) {
	if !m.has(k) {
		return *new(T), false
	}
	return *m.places[k], true
}

func (m *model[T]) set(k int, v T) bool {
	if !m.has(k) {
		return false
	}
	m.places[k] = &v
	return true
}

func (m *model[T]) held() []int {
	var list []int
	for k, p := range m.places {
		if p != nil {
			list = append(list, k)
		}
	}
	return list
}

func takeBoth[T any](t *testing.T, r *Region[T], m *model[T], v T) {
	t.Helper()
	want, is := m.take(v)
	if k, ok := r.Take(v); k != want || ok != is {
		t.Fatalf("Take = %d, %v; want %d, %v", k, ok, want, is)
	}
}

func giveBoth[T any](t *testing.T, r *Region[T], m *model[T], k int) {
	t.Helper()
	want := m.give(k)
	if got := r.Give(k); got != want {
		t.Fatalf("Give(%d) = %v; want %v", k, got, want)
	}
}

func setBoth[T any](t *testing.T, r *Region[T], m *model[T], k int, v T) {
	t.Helper()
	want := m.set(k, v)
	if got := r.Set(k, v); got != want {
		t.Fatalf("Set(%d) = %v; want %v", k, got, want)
	}
}

func samePlace[T comparable](t *testing.T, r *Region[T], m *model[T], k int) {
	t.Helper()
	if got := r.Has(k); got != m.has(k) {
		t.Fatalf("Has(%d) = %v", k, got)
	}
	want, is := m.at(k)
	if v, ok := r.At(k); v != want || ok != is {
		t.Fatalf("At(%d) = %v, %v; want %v, %v", k, v, ok, want, is)
	}
}

// same holds all that is to be seen of a region against the model.
func same[T comparable](t *testing.T, r *Region[T], m *model[T]) {
	t.Helper()
	if r.Room() != len(m.places) || r.Count() != len(m.held()) {
		t.Fatalf("Room, Count = %d, %d; want %d, %d", r.Room(), r.Count(), len(m.places), len(m.held()))
	}
	for k := -2; k < len(m.places)+2; k++ {
		samePlace(t, r, m, k)
	}
	if got := r.Held(); !slices.Equal(got, m.held()) {
		t.Fatalf("Held = %v; want %v", got, m.held())
	}
	var came []int
	for k, v := range r.All() {
		came = append(came, k)
		if want, _ := m.at(k); v != want {
			t.Fatalf("All: %d has %v; want %v", k, v, want)
		}
	}
	if !slices.Equal(came, m.held()) {
		t.Fatalf("All goes through %v; want %v", came, m.held())
	}
}

// steps is a fixed run of numbers, to make calls of.
func steps(count int) []uint64 {
	list := make([]uint64, 0, count)
	x := uint64(0xD1B54A32D192ED03)
	for range count {
		x ^= x << 13
		x ^= x >> 7
		x ^= x << 17
		list = append(list, x>>11)
	}
	return list
}

// turn makes one call of a step, at places that there are and others.
func turn[T comparable](t *testing.T, r *Region[T], m *model[T], step uint64, v T) {
	t.Helper()
	k := int(step>>8)%(len(m.places)+4) - 2
	switch step % 6 {
	case 0, 1, 2:
		takeBoth(t, r, m, v)
	case 3:
		giveBoth(t, r, m, k)
	case 4:
		setBoth(t, r, m, k, v)
	default:
		samePlace(t, r, m, k)
	}
}

// wild are places that no region has.
func wild() []int {
	return []int{math.MinInt, math.MinInt + 1, -257, -64, -1, 256, 257, 1 << 32, math.MaxInt - 1, math.MaxInt}
}

// The document's example.
func TestExample(t *testing.T) {
	r := New[int]([]int{2}).Region(0)
	for i, want := range []struct {
		k  int
		ok bool
	}{{0, true}, {1, true}, {0, false}} {
		if k, ok := r.Take(7 + i); k != want.k || ok != want.ok {
			t.Errorf("Take(%d) = %d, %v", 7+i, k, ok)
		}
	}
	if !r.Give(0) {
		t.Error("Give(0)")
	}
	if k, ok := r.Take(5); k != 0 || !ok {
		t.Errorf("Take(5) = %d, %v", k, ok)
	}
	if v, ok := r.At(0); v != 5 || !ok {
		t.Errorf("At(0) = %d, %v", v, ok)
	}
}

// P3.1, P1: there are as many regions as numbers, at most 64, of the first ones.
func TestRegions(t *testing.T) {
	for _, count := range []int{0, 1, 2, 63, 64, 65, 70, 100000} {
		caps := make([]int, count)
		for i := range caps {
			caps[i] = i
		}
		s := New[int](caps)
		if want := min(count, 64); s.Regions() != want {
			t.Fatalf("of %d numbers: Regions = %d; want %d", count, s.Regions(), want)
		}
		for k := range s.Regions() {
			if r := s.Region(k); r == nil || r.Room() != k {
				t.Fatalf("of %d numbers: Region(%d)", count, k)
			}
		}
		for _, k := range append(wild(), s.Regions(), s.Regions()+1) {
			if s.Region(k) != nil {
				t.Fatalf("of %d numbers: there is a region %d", count, k)
			}
		}
	}
	if New[int](nil).Regions() != 0 || New[int]([]int{}).Regions() != 0 {
		t.Error("a slab of no numbers has regions")
	}
}

// P3.1: rooms below 0 count as 0, above 256 as that; all places of each are free, are filled and refused behind the last.
func TestRooms(t *testing.T) {
	rooms := []int{math.MinInt, -1, 0, 1, 2, 63, 64, 65, 255, 256, 257, 300, 1 << 40, math.MaxInt}
	s := New[int](rooms)
	for i, room := range rooms {
		r, m := s.Region(i), newModel[int](room)
		same(t, r, m)
		for v := range held(room) + 2 {
			takeBoth(t, r, m, v*3+1)
		}
		same(t, r, m)
		for k := range held(room) {
			giveBoth(t, r, m, k)
		}
		same(t, r, m)
	}
}

// P3.1: a region that is asked for again is the same one.
func TestSameRegionAgain(t *testing.T) {
	s := New[int]([]int{1, 2})
	s.Region(1).Take(4)
	if v, ok := s.Region(1).At(0); v != 4 || !ok {
		t.Errorf("At(0) = %d, %v", v, ok)
	}
	if s.Region(0) != s.Region(0) || s.Region(0) == s.Region(1) {
		t.Error("Region")
	}
}

// P3.1, P1: places that there are none of, or that are free, are refused, and nothing is turned.
func TestNoSuchPlace(t *testing.T) {
	for _, room := range []int{0, 1, 3, 64, 256} {
		r, m := New[int]([]int{room, 5}).Region(0), newModel[int](room)
		for range room {
			takeBoth(t, r, m, 9)
		}
		giveBoth(t, r, m, 0)
		for _, k := range append(wild(), room, room+1, 0) {
			giveBoth(t, r, m, k)
			setBoth(t, r, m, k, 8)
			samePlace(t, r, m, k)
		}
		same(t, r, m)
	}
}

// P3.1: the first free place is taken, whichever became free last.
func TestFirstFreePlaceAgain(t *testing.T) {
	r, m := New[string]([]int{70}).Region(0), newModel[string](70)
	for range 70 {
		takeBoth(t, r, m, "a")
	}
	for _, k := range []int{0, 69, 64, 63, 5} {
		giveBoth(t, r, m, k)
	}
	same(t, r, m)
	for range 6 {
		takeBoth(t, r, m, "b")
		same(t, r, m)
	}
}

// P3.1: another thing is put into a place; the place is the same, and so are the others.
func TestSet(t *testing.T) {
	r, m := New[string]([]int{3}).Region(0), newModel[string](3)
	takeBoth(t, r, m, "a")
	takeBoth(t, r, m, "b")
	for _, k := range []int{1, 0, 2, -1, 3, 1} {
		setBoth(t, r, m, k, "c")
		same(t, r, m)
	}
	// The zero value is a thing too.
	setBoth(t, r, m, 1, "")
	same(t, r, m)
}

// P3.1: long mixed orders of calls, of rooms on both sides of a word of bits.
func TestMixedOrder(t *testing.T) {
	for _, room := range []int{0, 1, 2, 7, 64, 65, 256} {
		r, m := New[uint64]([]int{room}).Region(0), newModel[uint64](room)
		for i, step := range steps(4000) {
			turn(t, r, m, step, step)
			if i%100 == 0 {
				same(t, r, m)
			}
		}
		same(t, r, m)
	}
}

// P3.1: every order of six calls, in a region of two places.
func TestEveryShortOrder(t *testing.T) {
	const calls, length = 6, 6
	orders := 1
	for range length {
		orders *= calls
	}
	for order := range orders {
		r, m := New[int]([]int{2}).Region(0), newModel[int](2)
		for rest, i := order, 0; i < length; rest, i = rest/calls, i+1 {
			switch k := rest % calls; k {
			case 0, 1:
				takeBoth(t, r, m, i+1)
			case 2, 3:
				giveBoth(t, r, m, k-2)
			default:
				setBoth(t, r, m, k-4, -i-1)
			}
		}
		same(t, r, m)
	}
}

type row struct {
	name string
	n    [2]int
}

// mixed makes the same calls with things of a type.
func mixed[T comparable](t *testing.T, thing func(uint64) T) {
	t.Helper()
	r, m := New[T]([]int{5}).Region(0), newModel[T](5)
	for _, step := range steps(500) {
		turn(t, r, m, step, thing(step>>20))
	}
	same(t, r, m)
}

// P3.1: of whichever type.
func TestTypes(t *testing.T) {
	mixed(t, func(n uint64) bool { return n%2 == 0 })
	mixed(t, func(n uint64) byte { return byte(n) })
	mixed(t, func(n uint64) string { return string(rune('a' + n%26)) })
	mixed(t, func(n uint64) row { return row{name: "row", n: [2]int{int(n), 1}} })
	mixed(t, func(n uint64) struct{} { return struct{}{} })
	mixed(t, func(n uint64) *uint64 { return &n })
	mixed(t, func(n uint64) any {
		if n%2 == 0 {
			return n
		}
		return "odd"
	})
}

// P3.1: a thing of a type that can't be compared is in its place, and none is in it behind Give.
func TestTypesThatCantBeCompared(t *testing.T) {
	r := New[[]int]([]int{2}).Region(0)
	r.Take([]int{1, 2})
	if v, ok := r.At(0); !slices.Equal(v, []int{1, 2}) || !ok {
		t.Errorf("At(0) = %v, %v", v, ok)
	}
	r.Give(0)
	if v, ok := r.At(0); v != nil || ok {
		t.Errorf("At(0) = %v, %v", v, ok)
	}
	f := New[func() int]([]int{1}).Region(0)
	f.Take(func() int { return 7 })
	if v, ok := f.At(0); !ok || v() != 7 {
		t.Error("At(0) of a function")
	}
}

// P3.2: three regions side by side, of one slab, are as three of their own.
func TestRegionsAreApart(t *testing.T) {
	rooms := []int{3, 0, 2, 64, 256}
	s := New[uint64](rooms)
	models := make([]*model[uint64], len(rooms))
	for i, room := range rooms {
		models[i] = newModel[uint64](room)
	}
	for i, step := range steps(5000) {
		at := int(step>>40) % len(rooms)
		turn(t, s.Region(at), models[at], step, step)
		if i%200 == 0 {
			for k, m := range models {
				same(t, s.Region(k), m)
			}
		}
	}
	for k, m := range models {
		same(t, s.Region(k), m)
	}
}

// P3.2: a region that is full, or emptied, leaves those beside it as they are.
func TestNeighbours(t *testing.T) {
	s := New[int]([]int{2, 2, 2})
	models := []*model[int]{newModel[int](2), newModel[int](2), newModel[int](2)}
	check := func() {
		t.Helper()
		for k, m := range models {
			same(t, s.Region(k), m)
		}
	}
	for range 3 {
		takeBoth(t, s.Region(1), models[1], 5)
		check()
	}
	for k := -2; k < 4; k++ {
		setBoth(t, s.Region(1), models[1], k, 6)
		check()
	}
	takeBoth(t, s.Region(0), models[0], 1)
	takeBoth(t, s.Region(2), models[2], 3)
	for k := -2; k < 4; k++ {
		giveBoth(t, s.Region(1), models[1], k)
		check()
	}
}

// Ways: a region's memory ends where its places end, so that nothing behind them is reached.
func TestMemoryEnds(t *testing.T) {
	s := New[int]([]int{2, 3, 0, 4})
	for k, room := range []int{2, 3, 0, 4} {
		if got := cap(s.Region(k).places); got != room {
			t.Errorf("region %d: memory of %d places; want %d", k, got, room)
		}
	}
}

// P3.1: who goes through the places may stop, and begin again.
func TestAllStops(t *testing.T) {
	r := New[int]([]int{5}).Region(0)
	for v := range 5 {
		r.Take(v * 10)
	}
	all := r.All()
	for range 2 {
		var came []int
		for k, v := range all {
			came = append(came, k, v)
			if k == 2 {
				break
			}
		}
		if !slices.Equal(came, []int{0, 0, 1, 10, 2, 20}) {
			t.Errorf("came %v", came)
		}
	}
	for range New[int]([]int{0}).Region(0).All() {
		t.Error("a region of no places has one")
	}
}

// P3.1, P1: places become free, are taken and set while one goes through them: those that stay come once, rising.
func TestAllWhileTurning(t *testing.T) {
	for gone := range 4 {
		r := New[int]([]int{6}).Region(0)
		for v := range 4 {
			r.Take(v)
		}
		var came []int
		for k, v := range r.All() {
			if v != k && k != gone {
				t.Errorf("%d has %d", k, v)
			}
			came = append(came, k)
			r.Give(gone)
			r.Take(-1)
		}
		if !slices.IsSorted(came) || len(slices.Compact(slices.Clone(came))) != len(came) {
			t.Errorf("came %v", came)
		}
		for k := range 4 {
			if k != gone && !slices.Contains(came, k) {
				t.Errorf("%d didn't come: %v", k, came)
			}
		}
	}
}

// P3.1: what comes is what is in the place then.
func TestAllTellsWhatIsThere(t *testing.T) {
	r := New[int]([]int{3}).Region(0)
	for range 3 {
		r.Take(1)
	}
	sum := 0
	for k, v := range r.All() {
		sum += v
		r.Set(k+1, 10)
	}
	if sum != 21 {
		t.Errorf("sum %d", sum)
	}
}

// Rules: what is handed in isn't changed, nor kept; what Held answers is new memory, spare room too.
func TestMemory(t *testing.T) {
	caps := []int{-3, 2, 300, 7}
	s := New[int](caps[:2])
	if !slices.Equal(caps, []int{-3, 2, 300, 7}) {
		t.Errorf("New changed what it was given: %v", caps)
	}
	caps[1] = 0
	r, m := s.Region(1), newModel[int](2)
	takeBoth(t, r, m, 4)
	same(t, r, m)
	kept := r.Held()
	for range 2 {
		list := r.Held()
		list = list[:cap(list)]
		for i := range list {
			list[i] = 1
		}
		same(t, r, m)
	}
	giveBoth(t, r, m, 0)
	if !slices.Equal(kept, []int{0}) {
		t.Errorf("an answer was changed later: %v", kept)
	}
}

// P2: two slabs have nothing in common.
func TestSlabsAreApart(t *testing.T) {
	a, b := New[uint64]([]int{4}).Region(0), New[uint64]([]int{4}).Region(0)
	m := newModel[uint64](4)
	for _, step := range steps(300) {
		turn(t, a, m, step, step)
	}
	same(t, a, m)
	same(t, b, newModel[uint64](4))
}

// Rules: nothing is kept of a thing whose place is free.
func TestGiveKeepsNothing(t *testing.T) {
	r := New[string]([]int{2}).Region(0)
	r.Take("a")
	r.Give(0)
	if r.places[0] != "" {
		t.Errorf("kept %q", r.places[0])
	}
}
