package bits

import (
	"math"
	"testing"
)

// model is a set as the document's words have it: number by number, without words of bits.
type model struct {
	size int
	in   map[int]struct{}
}

func newModel(size int) *model {
	if size < 0 {
		size = 0
	}
	if size > 4096 {
		size = 4096
	}
	return &model{size: size, in: map[int]struct{}{}}
}

func (m *model) has(k int) bool {
	_, ok := m.in[k]
	return ok
}

func (m *model) put(k int) bool {
	if m.has(k) || k < 0 || k >= m.size {
		return false
	}
	m.in[k] = struct{}{}
	return true
}

func (m *model) drop(k int) bool {
	ok := m.has(k)
	delete(m.in, k)
	return ok
}

// find is the least number from k on that is in the set, or that isn't.
func (m *model) find(k int, in bool) (int, bool) {
	for n := max(k, 0); n < m.size; n++ {
		if m.has(n) == in {
			return n, true
		}
	}
	return 0, false
}

// sizes are those that words of bits may get wrong, and those that are no sizes.
func sizes() []int {
	return []int{math.MinInt, -4096, -1, 0, 1, 2, 63, 64, 65, 127, 128, 129, 130, 1000, 4032, 4033, 4095, 4096, 4097, 1 << 40, math.MaxInt}
}

// asked are numbers of all kinds to ask a set of a size for.
func asked(size int) []int {
	list := []int{math.MinInt, math.MinInt + 1, -4096, -65, -64, -63, -1, 4096, 4097, 1 << 32, 1 << 50, math.MaxInt - 1, math.MaxInt}
	for _, at := range []int{0, 63, 64, 127, 128, 192, size} {
		list = append(list, at-1, at, at+1)
	}
	return list
}

// same holds what is to be seen of a set against the model.
func same(t *testing.T, s *Set, m *model, numbers []int) {
	t.Helper()
	if s.Size() != m.size || s.Count() != len(m.in) {
		t.Fatalf("Size, Count = %d, %d; want %d, %d", s.Size(), s.Count(), m.size, len(m.in))
	}
	for _, k := range numbers {
		if got := s.Has(k); got != m.has(k) {
			t.Fatalf("size %d: Has(%d) = %v", m.size, k, got)
		}
		sameFound(t, s, m, k)
	}
}

func sameFound(t *testing.T, s *Set, m *model, k int) {
	t.Helper()
	got, ok := s.Next(k)
	if want, is := m.find(k, true); got != want || ok != is {
		t.Fatalf("size %d: Next(%d) = %d, %v; want %d, %v", m.size, k, got, ok, want, is)
	}
	got, ok = s.Gap(k)
	if want, is := m.find(k, false); got != want || ok != is {
		t.Fatalf("size %d: Gap(%d) = %d, %v; want %d, %v", m.size, k, got, ok, want, is)
	}
}

func putBoth(t *testing.T, s *Set, m *model, k int) {
	t.Helper()
	want := m.put(k)
	if got := s.Put(k); got != want {
		t.Fatalf("size %d: Put(%d) = %v; want %v", m.size, k, got, want)
	}
}

func dropBoth(t *testing.T, s *Set, m *model, k int) {
	t.Helper()
	want := m.drop(k)
	if got := s.Drop(k); got != want {
		t.Fatalf("size %d: Drop(%d) = %v; want %v", m.size, k, got, want)
	}
}

// The document's example.
func TestExample(t *testing.T) {
	s := New(100)
	s.Put(3)
	s.Put(70)
	if k, ok := s.Next(4); k != 70 || !ok {
		t.Errorf("Next(4) = %d, %v", k, ok)
	}
	if k, ok := s.Gap(3); k != 4 || !ok {
		t.Errorf("Gap(3) = %d, %v", k, ok)
	}
}

// P2.1, P1: sizes below 0 count as 0, above 4096 as that; a new set has no number in it.
func TestNewOfAllSizes(t *testing.T) {
	for _, size := range sizes() {
		m := newModel(size)
		same(t, New(size), m, asked(m.size))
	}
}

// P2.1, P1: numbers that a set has no room for are never in it, and turn nothing.
func TestNumbersOutside(t *testing.T) {
	for _, size := range sizes() {
		s, m := New(size), newModel(size)
		for _, k := range asked(m.size) {
			if k >= 0 && k < m.size {
				continue
			}
			if s.Put(k) || s.Has(k) || s.Drop(k) {
				t.Fatalf("size %d takes %d", size, k)
			}
		}
		same(t, s, m, asked(m.size))
	}
}

// P2.1: a set is filled to the last number and emptied to the first; where no number is left, none is found.
func TestFullAndEmpty(t *testing.T) {
	for _, size := range sizes() {
		s, m := New(size), newModel(size)
		for k := range m.size {
			putBoth(t, s, m, k)
		}
		same(t, s, m, asked(m.size))
		for k := range m.size {
			putBoth(t, s, m, k)
		}
		same(t, s, m, asked(m.size))
		for k := m.size - 1; k >= 0; k-- {
			dropBoth(t, s, m, k)
		}
		same(t, s, m, asked(m.size))
	}
}

// P2.1: a number alone is found from everywhere ahead of it, and so is a gap.
func TestOneAlone(t *testing.T) {
	for _, size := range []int{1, 63, 64, 65, 130, 200} {
		for one := range size {
			s, m := New(size), newModel(size)
			putBoth(t, s, m, one)
			for k := -1; k <= size; k++ {
				sameFound(t, s, m, k)
			}
			full, all := New(size), newModel(size)
			for k := range size {
				putBoth(t, full, all, k)
			}
			dropBoth(t, full, all, one)
			for k := -1; k <= size; k++ {
				sameFound(t, full, all, k)
			}
		}
	}
}

// steps is a fixed run of numbers, to make calls of.
func steps(count int) []uint64 {
	list := make([]uint64, 0, count)
	x := uint64(0xD1B54A32D192ED03)
	for range count {
		x ^= x << 13
		x ^= x >> 7
		x ^= x << 17
		list = append(list, x>>11)
	}
	return list
}

// turn makes one call of a step, in and out of the set's room.
func turn(t *testing.T, s *Set, m *model, step uint64) {
	t.Helper()
	k := int(step>>2)%(m.size+8) - 4
	switch step % 4 {
	case 0, 1:
		putBoth(t, s, m, k)
	case 2:
		dropBoth(t, s, m, k)
	default:
		same(t, s, m, []int{k})
	}
}

// P2.1: every call answers as said, in a long mixed order of calls.
func TestMixedOrder(t *testing.T) {
	for _, size := range []int{0, 1, 7, 63, 64, 65, 130, 300, 4096} {
		s, m := New(size), newModel(size)
		for _, step := range steps(4000) {
			turn(t, s, m, step)
		}
		for k := -2; k < size+2; k += 1 + size/200 {
			same(t, s, m, []int{k})
		}
	}
}

// P2.1: every order of a few calls, on both sides of a word's end.
func TestEveryShortOrder(t *testing.T) {
	numbers := []int{-1, 0, 63, 64, 65}
	const calls, length = 10, 5
	orders := 1
	for range length {
		orders *= calls
	}
	for order := range orders {
		s, m := New(65), newModel(65)
		for rest, i := order, 0; i < length; rest, i = rest/calls, i+1 {
			k := numbers[rest%calls/2]
			if rest%2 == 0 {
				putBoth(t, s, m, k)
			} else {
				dropBoth(t, s, m, k)
			}
		}
		if s.Count() != len(m.in) {
			t.Fatalf("order %d: Count = %d; want %d", order, s.Count(), len(m.in))
		}
		for _, k := range numbers {
			sameFound(t, s, m, k)
		}
	}
}

// P2: what is done in one set makes no difference in another, and the same calls are answered the same way.
func TestSetsAreApart(t *testing.T) {
	a, b, idle := New(130), New(130), New(130)
	ma, mb := newModel(130), newModel(130)
	for _, step := range steps(500) {
		turn(t, a, ma, step)
	}
	for _, step := range steps(500) {
		turn(t, b, mb, step)
	}
	for k := -1; k <= 130; k++ {
		if a.Has(k) != b.Has(k) {
			t.Errorf("Has(%d) differs", k)
		}
	}
	same(t, idle, newModel(130), asked(130))
}

// P2.1: to ask is to turn nothing.
func TestAskingTurnsNothing(t *testing.T) {
	s, m := New(130), newModel(130)
	for _, k := range []int{0, 63, 64, 129} {
		putBoth(t, s, m, k)
	}
	for range 3 {
		same(t, s, m, asked(130))
	}
}
