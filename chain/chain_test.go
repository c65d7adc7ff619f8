package chain

import (
	"math"
	"slices"
	"testing"
)

// model is lists as the document's words have them: slices, gone through from their beginnings.
type model struct {
	numbers int
	lists   [][]int
}

func newModel(numbers, lists int) *model {
	return &model{numbers: held(numbers), lists: make([][]int, held(lists))}
}

func held(n int) int {
	switch {
	case n < 0:
		return 0
	case n > 4096:
		return 4096
	}
	return n
}

func (m *model) on(k int) (int, bool) {
	for list, numbers := range m.lists {
		if slices.Contains(numbers, k) {
			return list, true
		}
	}
	return 0, false
}

func (m *model) push(list, k int) bool {
	if list < 0 || list >= len(m.lists) || k < 0 || k >= m.numbers {
		return false
	}
	if _, ok := m.on(k); ok {
		return false
	}
	m.lists[list] = append(m.lists[list], k)
	return true
}

func (m *model) pull(k int) bool {
	list, ok := m.on(k)
	if !ok {
		return false
	}
	at := slices.Index(m.lists[list], k)
	m.lists[list] = slices.Delete(m.lists[list], at, at+1)
	return true
}

func (m *model) all(list int) []int {
	if list < 0 || list >= len(m.lists) {
		return nil
	}
	return m.lists[list]
}

func pushBoth(t *testing.T, l *Links, m *model, list, k int) {
	t.Helper()
	want := m.push(list, k)
	if got := l.Push(list, k); got != want {
		t.Fatalf("Push(%d, %d) = %v; want %v", list, k, got, want)
	}
}

func pullBoth(t *testing.T, l *Links, m *model, k int) {
	t.Helper()
	want := m.pull(k)
	if got := l.Pull(k); got != want {
		t.Fatalf("Pull(%d) = %v; want %v", k, got, want)
	}
}

func sameOn(t *testing.T, l *Links, m *model, k int) {
	t.Helper()
	got, ok := l.On(k)
	if want, is := m.on(k); got != want || ok != is {
		t.Fatalf("On(%d) = %d, %v; want %d, %v", k, got, ok, want, is)
	}
}

func sameList(t *testing.T, l *Links, m *model, list int) {
	t.Helper()
	want := m.all(list)
	if got := l.All(list); !slices.Equal(got, want) {
		t.Fatalf("All(%d) = %v; want %v", list, got, want)
	}
	if got := l.Len(list); got != len(want) {
		t.Fatalf("Len(%d) = %d; want %d", list, got, len(want))
	}
	first := 0
	if len(want) > 0 {
		first = want[0]
	}
	if got, ok := l.First(list); got != first || ok != (len(want) > 0) {
		t.Fatalf("First(%d) = %d, %v; want %d, %v", list, got, ok, first, len(want) > 0)
	}
}

// same holds all that is to be seen of the lists against the model.
func same(t *testing.T, l *Links, m *model) {
	t.Helper()
	if l.Numbers() != m.numbers || l.Lists() != len(m.lists) {
		t.Fatalf("Numbers, Lists = %d, %d; want %d, %d", l.Numbers(), l.Lists(), m.numbers, len(m.lists))
	}
	for k := -2; k < m.numbers+2; k++ {
		sameOn(t, l, m, k)
	}
	for list := -2; list < len(m.lists)+2; list++ {
		sameList(t, l, m, list)
	}
}

// wild are numbers that are none, of any layout.
func wild() []int {
	return []int{math.MinInt, math.MinInt + 1, -4097, -1, 4096, 4097, 8191, 8192, 1 << 32, math.MaxInt - 1, math.MaxInt}
}

// The document's example.
func TestExample(t *testing.T) {
	l := New(5, 2)
	for _, k := range []int{3, 0, 4} {
		if !l.Push(1, k) {
			t.Errorf("Push(1, %d)", k)
		}
	}
	if l.Push(0, 3) {
		t.Error("3 went to a second list")
	}
	if !l.Pull(0) || !slices.Equal(l.All(1), []int{3, 4}) {
		t.Errorf("All(1) = %v", l.All(1))
	}
}

// P4.1, P1: of numbers and lists, below 0 counts as 0, above 4096 as that; no number is on a list.
func TestNewOfAllSizes(t *testing.T) {
	sizes := []int{math.MinInt, -4096, -1, 0, 1, 2, 4095, 4096, 4097, 1 << 40, math.MaxInt}
	for _, numbers := range sizes {
		for _, lists := range sizes {
			l := New(numbers, lists)
			if l.Numbers() != held(numbers) || l.Lists() != held(lists) {
				t.Fatalf("New(%d, %d): %d numbers, %d lists", numbers, lists, l.Numbers(), l.Lists())
			}
			for _, k := range []int{0, 1, held(numbers) - 1, held(numbers), held(lists) - 1, held(lists)} {
				sameOn(t, l, newModel(0, 0), k)
				sameList(t, l, newModel(0, 0), k)
			}
		}
	}
}

// P4.1: the last number goes to the last list, the next ones are none.
func TestLastNumberAndList(t *testing.T) {
	for _, size := range []int{1, 2, 4096} {
		l := New(size, size)
		if l.Push(size-1, size) || l.Push(size, size-1) || !l.Push(size-1, size-1) {
			t.Fatalf("size %d: Push", size)
		}
		if list, ok := l.On(size - 1); list != size-1 || !ok {
			t.Fatalf("size %d: On = %d, %v", size, list, ok)
		}
		if k, ok := l.First(size - 1); k != size-1 || !ok {
			t.Fatalf("size %d: First = %d, %v", size, k, ok)
		}
		if !l.Pull(size-1) || l.Pull(size-1) || l.Pull(size) || l.Len(size-1) != 0 {
			t.Fatalf("size %d: Pull", size)
		}
	}
}

// P4.1, P1: numbers and lists that there are none of are refused, and turn nothing.
func TestNoSuchNumberOrList(t *testing.T) {
	for _, size := range [][2]int{{0, 0}, {0, 3}, {3, 0}, {3, 2}, {2, 3}, {9, 9}} {
		l, m := New(size[0], size[1]), newModel(size[0], size[1])
		pushBoth(t, l, m, 0, 0)
		pushBoth(t, l, m, 0, 1)
		for _, k := range append(wild(), size[0], size[1], size[0]+size[1]) {
			pushBoth(t, l, m, 0, k)
			pushBoth(t, l, m, k, 2)
			pushBoth(t, l, m, k, k)
			pullBoth(t, l, m, k)
			sameOn(t, l, m, k)
			sameList(t, l, m, k)
			same(t, l, m)
		}
	}
}

// P4.1: the first, a middle and the last number of a list of each length are taken off; the others stay in their order.
func TestPullFromEverywhere(t *testing.T) {
	for length := 1; length <= 6; length++ {
		for at := range length {
			l, m := New(6, 3), newModel(6, 3)
			for k := range length {
				pushBoth(t, l, m, 1, (k*5+2)%6)
			}
			k := m.all(1)[at]
			pullBoth(t, l, m, k)
			same(t, l, m)
			pullBoth(t, l, m, k)
			same(t, l, m)
			pushBoth(t, l, m, 1, k)
			same(t, l, m)
			pushBoth(t, l, m, 0, k)
			same(t, l, m)
		}
	}
}

// P4.1: a list that became empty is as a new one; its numbers go to others.
func TestEmptyAgain(t *testing.T) {
	l, m := New(3, 2), newModel(3, 2)
	for range 3 {
		for k := range 3 {
			pushBoth(t, l, m, 0, k)
			pushBoth(t, l, m, 1, k)
		}
		for _, k := range []int{1, 0, 2} {
			pullBoth(t, l, m, k)
			same(t, l, m)
		}
	}
	pushBoth(t, l, m, 1, 2)
	pushBoth(t, l, m, 0, 0)
	same(t, l, m)
}

// P4.1: every number on one list, the greatest first, and taken off from within.
func TestAllNumbersOnOneList(t *testing.T) {
	l := New(4096, 4096)
	want := []int{}
	for k := 4095; k >= 0; k-- {
		if !l.Push(4095, k) {
			t.Fatalf("Push %d", k)
		}
		want = append(want, k)
	}
	if !slices.Equal(l.All(4095), want) || l.Len(4095) != 4096 {
		t.Fatal("All")
	}
	odd := want[:0]
	for k := 4095; k >= 0; k-- {
		if k%2 == 0 {
			l.Pull(k)
		} else {
			odd = append(odd, k)
		}
	}
	if !slices.Equal(l.All(4095), odd) || l.Len(4095) != 2048 {
		t.Fatal("Pull")
	}
}

// steps is a fixed run of numbers, to make calls of.
func steps(count int) []uint64 {
	list := make([]uint64, 0, count)
	x := uint64(0x9E3779B97F4A7C15)
	for range count {
		x ^= x << 13
		x ^= x >> 7
		x ^= x << 17
		list = append(list, x>>11)
	}
	return list
}

// P4.1: every call answers as said, in long mixed orders of calls.
func TestMixedOrder(t *testing.T) {
	for _, size := range [][2]int{{0, 2}, {1, 1}, {4, 1}, {5, 3}, {20, 4}, {64, 64}} {
		l, m := New(size[0], size[1]), newModel(size[0], size[1])
		for i, step := range steps(4000) {
			k := int(step>>8)%(size[0]+4) - 2
			list := int(step>>24)%(size[1]+2) - 1
			if step%5 < 3 {
				pushBoth(t, l, m, list, k)
			} else {
				pullBoth(t, l, m, k)
			}
			sameOn(t, l, m, k)
			sameList(t, l, m, list)
			if i%50 == 0 {
				same(t, l, m)
			}
		}
		same(t, l, m)
	}
}

// P4.1: every order of six calls, of three numbers and two lists.
func TestEveryShortOrder(t *testing.T) {
	const numbers, calls, length = 3, 9, 6
	orders := 1
	for range length {
		orders *= calls
	}
	for order := range orders {
		l, m := New(numbers, 2), newModel(numbers, 2)
		for rest, i := order, 0; i < length; rest, i = rest/calls, i+1 {
			k := rest % calls % numbers
			if list := rest % calls / numbers; list < 2 {
				pushBoth(t, l, m, list, k)
			} else {
				pullBoth(t, l, m, k)
			}
		}
		for list := range 2 {
			sameList(t, l, m, list)
		}
	}
}

// Rules: what All answers is new memory, spare room too, and is the caller's to write over.
func TestAllIsNewMemory(t *testing.T) {
	l, m := New(6, 2), newModel(6, 2)
	for k := range 4 {
		pushBoth(t, l, m, 0, k)
	}
	for range 2 {
		all := l.All(0)
		all = all[:cap(all)]
		for i := range all {
			all[i] = 5
		}
		same(t, l, m)
	}
	kept := l.All(0)
	pullBoth(t, l, m, 0)
	pushBoth(t, l, m, 0, 5)
	if !slices.Equal(kept, []int{0, 1, 2, 3}) {
		t.Errorf("an answer was changed later: %v", kept)
	}
}

// P2: what is done in one makes no difference in another.
func TestLinksAreApart(t *testing.T) {
	a, b := New(8, 2), New(8, 2)
	ma, mb := newModel(8, 2), newModel(8, 2)
	for _, step := range steps(300) {
		pushBoth(t, a, ma, int(step%2), int(step>>8)%8)
		pullBoth(t, a, ma, int(step>>16)%8)
	}
	same(t, a, ma)
	same(t, b, mb)
}
