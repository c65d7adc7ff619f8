package ledger

import (
	"cmp"
	"math"
	"math/big"
	"slices"
	"testing"
)

// account is how much of a thing there may be, and is, in numbers without end.
type account struct{ may, used *big.Int }

// model is a book as the document's words have it.
type model[K cmp.Ordered] struct {
	things map[K]account
}

func newModel[K cmp.Ordered]() *model[K] {
	return &model[K]{things: map[K]account{}}
}

func whole(n int) *big.Int { return big.NewInt(int64(n)) }

func (m *model[K]) limit(key K, n int) {
	a, ok := m.things[key]
	if !ok {
		a.used = whole(0)
	}
	a.may = whole(n)
	if n < 0 {
		a.may = whole(0)
	}
	m.things[key] = a
}

func (m *model[K]) take(key K, n int) bool {
	a, ok := m.things[key]
	if !ok || n < 0 {
		return false
	}
	sum := new(big.Int).Add(a.used, whole(n))
	if sum.Cmp(a.may) > 0 {
		return false
	}
	m.things[key] = account{may: a.may, used: sum}
	return true
}

func (m *model[K]) give(key K, n int) bool {
	a, ok := m.things[key]
	if !ok || n < 0 || whole(n).Cmp(a.used) > 0 {
		return false
	}
	m.things[key] = account{may: a.may, used: new(big.Int).Sub(a.used, whole(n))}
	return true
}

func (m *model[K]) used(key K) int {
	a, ok := m.things[key]
	if !ok {
		return 0
	}
	return int(a.used.Int64())
}

func (m *model[K]) left(key K) int {
	a, ok := m.things[key]
	if !ok || a.used.Cmp(a.may) > 0 {
		return 0
	}
	return int(new(big.Int).Sub(a.may, a.used).Int64())
}

func (m *model[K]) keys() []K {
	var list []K
	for key := range m.things {
		list = append(list, key)
	}
	slices.Sort(list)
	return list
}

func limitBoth[K cmp.Ordered](b *Book[K], m *model[K], key K, n int) {
	m.limit(key, n)
	b.Limit(key, n)
}

func takeBoth[K cmp.Ordered](t *testing.T, b *Book[K], m *model[K], key K, n int) {
	t.Helper()
	want := m.take(key, n)
	if got := b.Take(key, n); got != want {
		t.Fatalf("Take(%v, %d) = %v; want %v", key, n, got, want)
	}
}

func giveBoth[K cmp.Ordered](t *testing.T, b *Book[K], m *model[K], key K, n int) {
	t.Helper()
	want := m.give(key, n)
	if got := b.Give(key, n); got != want {
		t.Fatalf("Give(%v, %d) = %v; want %v", key, n, got, want)
	}
}

func sameThing[K cmp.Ordered](t *testing.T, b *Book[K], m *model[K], key K) {
	t.Helper()
	if b.Used(key) != m.used(key) || b.Left(key) != m.left(key) {
		t.Fatalf("Used, Left(%v) = %d, %d; want %d, %d", key, b.Used(key), b.Left(key), m.used(key), m.left(key))
	}
}

// same holds all that is to be seen of a book against the model, and things beside those it knows.
func same[K cmp.Ordered](t *testing.T, b *Book[K], m *model[K], others ...K) {
	t.Helper()
	if got := b.Keys(); !slices.Equal(got, m.keys()) {
		t.Fatalf("Keys = %v; want %v", got, m.keys())
	}
	for _, key := range append(m.keys(), others...) {
		sameThing(t, b, m, key)
	}
}

// numbers are those of which sums pass the greatest int, and those that are below 0.
func numbers() []int {
	return []int{math.MinInt, math.MinInt + 1, -1000, -1, 0, 1, 2, 3, 1000, 1 << 62, math.MaxInt - 1, math.MaxInt}
}

// The document's example.
func TestExample(t *testing.T) {
	var b Book[string]
	b.Limit("x", 3)
	if !b.Take("x", 2) || b.Take("x", 2) {
		t.Error("Take")
	}
	if b.Used("x") != 2 || b.Left("x") != 1 {
		t.Errorf("Used, Left = %d, %d", b.Used("x"), b.Left("x"))
	}
}

// P6.1, P1: the zero Book knows no thing, and a thing that isn't known is refused in a book that knows others.
func TestThingsThatArentKnown(t *testing.T) {
	b, m := new(Book[int]), newModel[int]()
	for range 2 {
		for _, key := range []int{math.MinInt, -1, 0, 1, 2, 3, math.MaxInt} {
			for _, n := range numbers() {
				takeBoth(t, b, m, key, n)
				giveBoth(t, b, m, key, n)
				same(t, b, m, key)
			}
		}
		limitBoth(b, m, 2, 5)
	}
	if !slices.Equal(b.Keys(), []int{2}) {
		t.Errorf("Keys = %v", b.Keys())
	}
}

// P6.1: a thing of which there may be none is known all the same.
func TestBoundOfNone(t *testing.T) {
	for _, n := range []int{0, -1, math.MinInt} {
		b, m := new(Book[string]), newModel[string]()
		limitBoth(b, m, "a", n)
		same(t, b, m, "b")
		if !b.Take("a", 0) || !b.Give("a", 0) || b.Take("a", 1) || b.Give("a", 1) {
			t.Errorf("of a bound of %d", n)
		}
		same(t, b, m, "b")
	}
}

// P6.1, P6.2: of every bound, what there is and number each call answers as said; nothing wraps.
func TestNumbers(t *testing.T) {
	for _, may := range numbers() {
		for _, first := range numbers() {
			for _, n := range numbers() {
				b, m := new(Book[int]), newModel[int]()
				limitBoth(b, m, 4, may)
				takeBoth(t, b, m, 4, first)
				sameThing(t, b, m, 4)
				takeBoth(t, b, m, 4, n)
				sameThing(t, b, m, 4)
				giveBoth(t, b, m, 4, n)
				sameThing(t, b, m, 4)
				giveBoth(t, b, m, 4, first)
				same(t, b, m)
			}
		}
	}
}

// P6.1: sums that would pass the greatest int are refused, and nothing is turned; the greatest int itself isn't.
func TestGreatestSum(t *testing.T) {
	var b Book[int]
	b.Limit(1, math.MaxInt)
	if !b.Take(1, math.MaxInt-1) || b.Take(1, 2) || b.Take(1, math.MaxInt) || !b.Take(1, 1) || b.Take(1, 1) {
		t.Error("Take")
	}
	if b.Used(1) != math.MaxInt || b.Left(1) != 0 {
		t.Errorf("Used, Left = %d, %d", b.Used(1), b.Left(1))
	}
	b.Limit(1, math.MinInt)
	if b.Take(1, 0) || b.Take(1, math.MaxInt) || b.Left(1) != 0 || !b.Give(1, math.MaxInt) || b.Give(1, 1) {
		t.Error("of a bound that was lowered")
	}
}

// P6.1, P6.2: a bound is lowered below what there is: nothing more is taken, not even 0, till enough is given back, or it is raised.
func TestBoundIsLoweredAndRaised(t *testing.T) {
	for lowered := -1; lowered <= 6; lowered++ {
		for raised := -1; raised <= 8; raised++ {
			b, m := new(Book[string]), newModel[string]()
			limitBoth(b, m, "a", 6)
			limitBoth(b, m, "b", 2)
			takeBoth(t, b, m, "a", 5)
			limitBoth(b, m, "a", lowered)
			same(t, b, m)
			for n := range 3 {
				takeBoth(t, b, m, "a", n)
				giveBoth(t, b, m, "a", n)
				same(t, b, m)
			}
			limitBoth(b, m, "a", raised)
			same(t, b, m)
			for n := range 7 {
				takeBoth(t, b, m, "a", n)
				same(t, b, m)
			}
		}
	}
}

// P6.1: how much there is stays, whatever there may be.
func TestUsedStays(t *testing.T) {
	var b Book[int]
	b.Limit(3, 10)
	b.Take(3, 7)
	for _, n := range append(numbers(), 6, 7, 8) {
		b.Limit(3, n)
		if b.Used(3) != 7 {
			t.Fatalf("Limit(3, %d): Used = %d", n, b.Used(3))
		}
		if want := max(max(n, 0)-7, 0); b.Left(3) != want {
			t.Fatalf("Limit(3, %d): Left = %d; want %d", n, b.Left(3), want)
		}
	}
}

// P6.1: what is done with a thing makes no difference for another one.
func TestThingsAreApart(t *testing.T) {
	b, m := new(Book[int]), newModel[int]()
	for _, key := range []int{5, -5, 0, 9, 2} {
		limitBoth(b, m, key, key+6)
		takeBoth(t, b, m, key, 1)
		same(t, b, m, 4, 10)
	}
	for _, key := range []int{0, 9, -5, 2, 5} {
		takeBoth(t, b, m, key, 3)
		giveBoth(t, b, m, key, 2)
		limitBoth(b, m, key, 1)
		same(t, b, m, 4, 10)
	}
}

// P2: books are apart, and to ask is to turn nothing.
func TestBooksAreApart(t *testing.T) {
	a, b := new(Book[string]), new(Book[string])
	ma, mb := newModel[string](), newModel[string]()
	limitBoth(a, ma, "x", 3)
	same(t, b, mb, "x")
	limitBoth(b, mb, "x", 9)
	takeBoth(t, b, mb, "x", 8)
	for range 3 {
		same(t, a, ma, "y")
		same(t, b, mb, "y")
	}
}

// steps is a fixed run of numbers, to make calls of.
func steps(count int) []uint64 {
	list := make([]uint64, 0, count)
	x := uint64(0xE7037ED1A0B428DB)
	for range count {
		x ^= x << 13
		x ^= x >> 7
		x ^= x << 17
		list = append(list, x>>11)
	}
	return list
}

// turn makes one call of a step, of a thing; where there is more than there may be, nothing may be added.
func turn[K cmp.Ordered](t *testing.T, b *Book[K], m *model[K], step uint64, key K) {
	t.Helper()
	n := int(step>>8%12) - 2
	if list := numbers(); step>>16%16 == 0 {
		n = list[int(step>>20)%len(list)]
	}
	room := b.Left(key)
	ahead := b.Used(key)
	switch step % 6 {
	case 0:
		limitBoth(b, m, key, n)
	case 1, 2, 3:
		takeBoth(t, b, m, key, n)
	default:
		giveBoth(t, b, m, key, n)
	}
	if b.Used(key)-ahead > room {
		t.Fatalf("of %v there was room for %d, and %d came", key, room, b.Used(key)-ahead)
	}
	sameThing(t, b, m, key)
}

// mixed makes a long mixed order of calls with things of a type, some of which become known early, some late, some never.
func mixed[K cmp.Ordered](t *testing.T, things []K) {
	t.Helper()
	b, m := new(Book[K]), newModel[K]()
	for i, step := range steps(3000) {
		turn(t, b, m, step, things[int(step>>30)%(1+i*len(things)/3000)])
		if i%50 == 0 {
			same(t, b, m, things...)
		}
	}
	same(t, b, m, things...)
}

type name string

// P6.1: of whichever type, in every order of calls.
func TestTypes(t *testing.T) {
	mixed(t, []int{0})
	mixed(t, []int{3, -1, math.MaxInt, 0, math.MinInt, 2})
	mixed(t, []uint8{200, 0, 255, 1, 127, 128})
	mixed(t, []int8{127, -128, 0, -1})
	mixed(t, []uint64{math.MaxUint64, 1 << 63, 0, 1})
	mixed(t, []uintptr{9, 3})
	mixed(t, []string{"b", "", "a", "ab", "B", "\xff", "é", "a\x00", "aa"})
	mixed(t, []name{"z", "y", "x"})
	mixed(t, []float64{0.5, -0.5, 0, math.Inf(1), math.Inf(-1), math.MaxFloat64, math.SmallestNonzeroFloat64})
	mixed(t, []float32{2, 1})
}

// P6.1: every order of six calls, of two things.
func TestEveryShortOrder(t *testing.T) {
	const calls, length = 8, 6
	orders := 1
	for range length {
		orders *= calls
	}
	things := []string{"b", "a"}
	for order := range orders {
		b, m := new(Book[string]), newModel[string]()
		for rest, i := order, 0; i < length; rest, i = rest/calls, i+1 {
			key := things[rest%2]
			switch rest % calls / 2 {
			case 0:
				limitBoth(b, m, key, 2)
			case 1:
				limitBoth(b, m, key, 1)
			case 2:
				takeBoth(t, b, m, key, 1)
			default:
				giveBoth(t, b, m, key, 1)
			}
		}
		same(t, b, m, things...)
	}
}

// P6.1, P2: all keys rise, each of them once, in whichever order they became known.
func TestKeysRise(t *testing.T) {
	for _, factor := range []int{1, 299, 7, 100, 151} {
		b, m := new(Book[int]), newModel[int]()
		for i := range 900 {
			limitBoth(b, m, i*factor%300-150, i)
		}
		same(t, b, m, -151, 150)
		if !slices.IsSorted(b.Keys()) {
			t.Errorf("Keys = %v", b.Keys())
		}
	}
	var b Book[string]
	for _, key := range []string{"é", "b", "", "Z", "a\x00", "a", "\xff", "aa"} {
		b.Limit(key, 1)
	}
	if want := []string{"", "Z", "a", "a\x00", "aa", "b", "é", "\xff"}; !slices.Equal(b.Keys(), want) {
		t.Errorf("Keys = %q; want %q", b.Keys(), want)
	}
}

// P6.1: the two zeros of floats are one thing.
func TestZeros(t *testing.T) {
	var b Book[float64]
	b.Limit(0, 4)
	b.Limit(math.Copysign(0, -1), 5)
	if !b.Take(0, 5) || b.Used(math.Copysign(0, -1)) != 5 || len(b.Keys()) != 1 {
		t.Errorf("Keys = %v", b.Keys())
	}
}

// P1: of floats that are no numbers nothing is said, but that the calls end; other things stay as they are.
func TestNoNumbers(t *testing.T) {
	var b Book[float64]
	b.Limit(2, 3)
	b.Take(2, 1)
	for range 3 {
		b.Limit(math.NaN(), 3)
		b.Take(math.NaN(), 1)
		b.Give(math.NaN(), 1)
		b.Left(math.NaN())
		b.Used(math.NaN())
		b.Keys()
	}
	if b.Used(2) != 1 || b.Left(2) != 2 {
		t.Errorf("Used, Left = %d, %d", b.Used(2), b.Left(2))
	}
}

// Rules: what Keys answers is new memory, spare room too; an empty book has an empty list.
func TestKeysAreNewMemory(t *testing.T) {
	b, m := new(Book[int]), newModel[int]()
	if len(b.Keys()) != 0 {
		t.Errorf("Keys = %v", b.Keys())
	}
	for _, key := range []int{8, 6, 7} {
		limitBoth(b, m, key, key)
	}
	kept := b.Keys()
	for range 2 {
		list := b.Keys()
		list = list[:cap(list)]
		for i := range list {
			list[i] = 1
		}
		same(t, b, m, 1)
	}
	limitBoth(b, m, 5, 5)
	if !slices.Equal(kept, []int{6, 7, 8}) {
		t.Errorf("an answer was changed later: %v", kept)
	}
}
