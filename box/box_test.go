package box

import (
	"math"
	"slices"
	"strconv"
	"testing"
)

// model is a box as the document's words have it: a list, and how long it may be.
type model[T any] struct {
	room int
	list []T
}

func newModel[T any](room int) *model[T] {
	if room < 0 {
		room = 0
	}
	if room > 4096 {
		room = 4096
	}
	return &model[T]{room: room}
}

func (m *model[T]) post(v T) bool {
	if len(m.list) >= m.room {
		return false
	}
	m.list = append(m.list, v)
	return true
}

func (m *model[T]) fetch() (T, bool) {
	var first T
	if len(m.list) == 0 {
		return first, false
	}
	first = m.list[0]
	m.list = slices.Clone(m.list[1:])
	return first, true
}

func (m *model[T]) sift(wanted func(T) bool) int {
	was := len(m.list)
	var list []T
	for _, v := range m.list {
		if wanted(v) {
			list = append(list, v)
		}
	}
	m.list = list
	return was - len(list)
}

func eitherOf[T any](a, b *model[T]) (T, int) {
	if v, ok := a.fetch(); ok {
		return v, 0
	}
	if v, ok := b.fetch(); ok {
		return v, 1
	}
	var none T
	return none, -1
}

// pair is a box, and the model of which all its answers are asked.
type pair[T comparable] struct {
	b *Box[T]
	m *model[T]
}

func newPair[T comparable](room int) pair[T] { return pair[T]{b: New[T](room), m: newModel[T](room)} }

func (p pair[T]) post(t *testing.T, v T) {
	t.Helper()
	want := p.m.post(v)
	if got := p.b.Post(v); got != want {
		t.Fatalf("of %v: Post(%v) = %v; want %v", p.m.list, v, got, want)
	}
}

func (p pair[T]) fetch(t *testing.T) {
	t.Helper()
	was := p.m.list
	want, is := p.m.fetch()
	if v, ok := p.b.Fetch(); v != want || ok != is {
		t.Fatalf("of %v: Fetch = %v, %v; want %v, %v", was, v, ok, want, is)
	}
}

// sift also holds what is asked about, and in which order, against the model.
func (p pair[T]) sift(t *testing.T, wanted func(T) bool) {
	t.Helper()
	was := p.m.list
	want := p.m.sift(wanted)
	var asked []T
	got := p.b.Sift(func(v T) bool {
		asked = append(asked, v)
		return wanted(v)
	})
	if got != want || !slices.Equal(asked, was) {
		t.Fatalf("of %v: Sift = %d, it asked of %v; want %d", was, got, asked, want)
	}
}

func (p pair[T]) either(t *testing.T, other pair[T]) {
	t.Helper()
	first, second := p.m.list, other.m.list
	want, from := eitherOf(p.m, other.m)
	if v, which := Either(p.b, other.b); v != want || which != from {
		t.Fatalf("of %v and %v: Either = %v, %d; want %v, %d", first, second, v, which, want, from)
	}
}

// same holds all that is to be seen of the box against the model.
func (p pair[T]) same(t *testing.T) {
	t.Helper()
	if p.b.Room() != p.m.room || p.b.Len() != len(p.m.list) {
		t.Fatalf("Room, Len = %d, %d; want %d, %d", p.b.Room(), p.b.Len(), p.m.room, len(p.m.list))
	}
	if all := p.b.All(); !slices.Equal(all, p.m.list) {
		t.Fatalf("All = %v; want %v", all, p.m.list)
	}
}

// empty takes all out, one by one, and one more.
func (p pair[T]) empty(t *testing.T) {
	t.Helper()
	for range len(p.m.list) + 1 {
		p.fetch(t)
		p.same(t)
	}
}

// steps is a fixed run of numbers, to make calls of.
func steps(count int) []uint64 {
	list := make([]uint64, 0, count)
	x := uint64(0x9E3779B97F4A7C15)
	for range count {
		x ^= x << 13
		x ^= x >> 7
		x ^= x << 17
		list = append(list, x>>3)
	}
	return list
}

// P10.1: the document's own example.
func TestExample(t *testing.T) {
	b := New[int](2)
	if !b.Post(7) || !b.Post(8) || b.Post(9) {
		t.Error("Post")
	}
	if v, ok := b.Fetch(); v != 7 || !ok {
		t.Errorf("Fetch = %d, %v", v, ok)
	}
}

// P10.1, P4: rooms of every kind: below 0 counts as 0, above 4096 as that; filled, and one more, and emptied.
func TestRooms(t *testing.T) {
	for _, c := range []struct{ room, want int }{
		{math.MinInt, 0}, {-4097, 0}, {-2, 0}, {-1, 0}, {0, 0}, {1, 1}, {2, 2}, {3, 3}, {64, 64}, {255, 255}, {256, 256},
		{4094, 4094}, {4095, 4095}, {4096, 4096}, {4097, 4096}, {8192, 4096}, {1 << 32, 4096}, {1<<32 + 1, 4096},
		{1 << 40, 4096}, {math.MaxInt - 1, 4096}, {math.MaxInt, 4096},
	} {
		b := New[int](c.room)
		if b.Room() != c.want || b.Len() != 0 || len(b.All()) != 0 {
			t.Fatalf("New(%d): Room = %d, Len = %d; want %d", c.room, b.Room(), b.Len(), c.want)
		}
		for v := range c.want {
			if !b.Post(v) || b.Len() != v+1 {
				t.Fatalf("New(%d): the thing %d doesn't go in", c.room, v)
			}
		}
		if b.Post(-1) || b.Len() != c.want || b.Room() != c.want {
			t.Fatalf("New(%d): one more than there is room for goes in", c.room)
		}
		for v := range c.want {
			if got, ok := b.Fetch(); got != v || !ok || b.Len() != c.want-v-1 {
				t.Fatalf("New(%d): Fetch = %d, %v; want %d", c.room, got, ok, v)
			}
		}
		if got, ok := b.Fetch(); got != 0 || ok {
			t.Fatalf("New(%d): Fetch of nothing = %d, %v", c.room, got, ok)
		}
	}
}

// P10.1, P4: a box that is full takes nothing, and turns nothing; a thing that is taken out leaves room for one.
func TestFull(t *testing.T) {
	for _, room := range []int{0, 1, 2, 3, 7, 64} {
		p := newPair[int](room)
		for v := range room + 3 {
			p.post(t, v)
			p.same(t)
		}
		for v := range 3 * room {
			p.fetch(t)
			p.same(t)
			p.post(t, 100+v)
			p.same(t)
			p.post(t, -1)
			p.same(t)
		}
		p.empty(t)
	}
}

// P10.1: a box with nothing in it, at first, and again and again.
func TestNothing(t *testing.T) {
	for _, room := range []int{-1, 0, 1, 5} {
		p := newPair[string](room)
		for range 3 {
			p.fetch(t)
			p.sift(t, func(string) bool { return true })
			p.sift(t, func(string) bool { return false })
			p.either(t, p)
			p.same(t)
			p.post(t, "a")
			p.same(t)
			p.fetch(t)
			p.same(t)
		}
	}
}

// P10.1: the same thing may wait many times, and so may the type's zero value.
func TestSameThings(t *testing.T) {
	p := newPair[int](5)
	for _, v := range []int{0, 4, 0, 4, 0} {
		p.post(t, v)
		p.same(t)
	}
	p.sift(t, func(v int) bool { return v == 0 })
	p.same(t)
	p.post(t, 0)
	p.empty(t)
}

// P10.1: Sift of every choice of things, in every box of up to six, wherever its first thing has come to stand.
func TestSift(t *testing.T) {
	const most = 6
	for room := range most + 1 {
		for count := range room + 1 {
			for turned := range room + 1 {
				for choice := range 1 << count {
					p := newPair[int](room)
					for range turned {
						p.post(t, 99)
						p.fetch(t)
					}
					for v := range count {
						p.post(t, v)
					}
					p.sift(t, func(v int) bool { return choice>>v&1 == 1 })
					p.same(t)
					p.post(t, 50)
					p.post(t, 51)
					p.same(t)
					p.empty(t)
				}
			}
		}
	}
}

// P10.1: Sift of all, of none and of some in the greatest box, which stays as great.
func TestSiftOfMany(t *testing.T) {
	for _, wanted := range []func(v int) bool{
		func(v int) bool { return true },
		func(v int) bool { return false },
		func(v int) bool { return v%2 == 0 },
		func(v int) bool { return v%3 == 1 },
		func(v int) bool { return v == 0 },
		func(v int) bool { return v == 4095 },
		func(v int) bool { return v != 0 },
		func(v int) bool { return v != 4095 },
	} {
		p := newPair[int](4096)
		for v := range 4100 {
			p.post(t, v)
		}
		p.sift(t, wanted)
		p.same(t)
		for v := range 4100 {
			p.post(t, 5000+v)
		}
		p.same(t)
		p.sift(t, wanted)
		p.same(t)
	}
}

// P10.1: what was sifted out once is gone; what stays is asked about anew by the next Sift.
func TestSiftAgain(t *testing.T) {
	p := newPair[int](8)
	for v := range 8 {
		p.post(t, v)
	}
	for _, unwanted := range []int{3, 3, 0, 7, 9} {
		p.sift(t, func(v int) bool { return v != unwanted })
		p.same(t)
	}
	p.sift(t, func(v int) bool { return v == 2 || v == 5 })
	p.sift(t, func(v int) bool { return true })
	p.same(t)
	p.sift(t, func(v int) bool { return false })
	p.same(t)
}

// P10.1: what is wanted may hang on what was asked about ahead.
func TestSiftByTurns(t *testing.T) {
	b := New[string](6)
	for _, v := range []string{"a", "a", "b", "a", "b", "c"} {
		b.Post(v)
	}
	seen := map[string]int{}
	gone := b.Sift(func(v string) bool {
		seen[v]++
		return seen[v] == 1
	})
	if all := b.All(); gone != 3 || !slices.Equal(all, []string{"a", "b", "c"}) {
		t.Errorf("Sift = %d, All = %v", gone, all)
	}
}

// P1, P10.1: a wanted that asks the box itself finds all that waits there.
func TestSiftSeesAll(t *testing.T) {
	b := New[int](4)
	for v := range 4 {
		b.Post(v)
	}
	gone := b.Sift(func(v int) bool {
		if all := b.All(); !slices.Equal(all, []int{0, 1, 2, 3}) || b.Len() != 4 || b.Room() != 4 {
			t.Errorf("at %d: All = %v, Len = %d", v, all, b.Len())
		}
		return v%2 == 1
	})
	if all := b.All(); gone != 2 || !slices.Equal(all, []int{1, 3}) {
		t.Errorf("Sift = %d, All = %v", gone, all)
	}
}

// P1, P10.1: a wanted that puts things in ends; what went in stays, and takes the room of none that stays.
func TestSiftWhilePosting(t *testing.T) {
	for _, room := range []int{3, 4, 5, 6, 9} {
		b := New[int](room)
		want := []int{1}
		for v := range 3 {
			b.Post(v)
		}
		gone := b.Sift(func(v int) bool {
			if b.Post(10 + v) {
				want = append(want, 10+v)
			}
			return v == 1
		})
		if all := b.All(); gone != 2 || !slices.Equal(all, want) {
			t.Errorf("room %d: Sift = %d, All = %v; want %v", room, gone, all, want)
		}
	}
}

// P1, P10.1: a wanted that takes things out ends; they don't come back, whether they are wanted or not.
func TestSiftWhileFetching(t *testing.T) {
	for _, c := range []struct {
		wanted bool
		gone   int
		all    []int
	}{{true, 0, []int{3, 4}}, {false, 2, nil}} {
		b := New[int](5)
		for v := range 5 {
			b.Post(v)
		}
		gone := b.Sift(func(v int) bool {
			if v < 3 {
				if got, ok := b.Fetch(); got != v || !ok {
					t.Errorf("Fetch = %d, %v; want %d", got, ok, v)
				}
			}
			return c.wanted
		})
		if all := b.All(); gone != c.gone || !slices.Equal(all, c.all) {
			t.Errorf("wanted %v: Sift = %d, All = %v", c.wanted, gone, all)
		}
	}
}

// P1, P10.1: a wanted that sifts itself ends, and neither is lost on the other.
func TestSiftWithinSift(t *testing.T) {
	b := New[int](6)
	for v := range 6 {
		b.Post(v)
	}
	within := 0
	gone := b.Sift(func(v int) bool {
		if v == 3 {
			within = b.Sift(func(v int) bool { return v != 5 })
		}
		return v != 0
	})
	if all := b.All(); gone != 1 || within != 1 || !slices.Equal(all, []int{1, 2, 3, 4}) {
		t.Errorf("Sift = %d, within it %d, All = %v", gone, within, all)
	}
}

// P10.1: a wanted that panics is the caller's own; the box has all that it had.
func TestSiftThatPanics(t *testing.T) {
	p := newPair[int](4)
	for v := range 4 {
		p.post(t, v)
	}
	func() {
		defer func() { recover() }()
		p.b.Sift(func(v int) bool {
			if v == 2 {
				panic("wanted")
			}
			return false
		})
	}()
	p.same(t)
	p.sift(t, func(v int) bool { return v != 1 })
	p.same(t)
}

// P10.1: Either of boxes where both, one or none have things; the other one is left as it is.
func TestEither(t *testing.T) {
	for first := range 4 {
		for second := range 4 {
			a, b := newPair[int](3), newPair[int](3)
			for v := range first {
				a.post(t, 10+v)
			}
			for v := range second {
				b.post(t, 20+v)
			}
			for range first + second + 2 {
				a.either(t, b)
				a.same(t)
				b.same(t)
			}
			a.post(t, 30)
			b.post(t, 40)
			b.either(t, a)
			a.same(t)
			b.same(t)
		}
	}
}

// P10.1: the numbers that Either tells, one by one; a zero value that waits isn't nothing.
func TestEitherTells(t *testing.T) {
	a, b := New[string](2), New[string](2)
	a.Post("")
	b.Post("x")
	b.Post("")
	a.Post("y")
	for i, want := range []struct {
		v     string
		which int
	}{{"", 0}, {"y", 0}, {"x", 1}, {"", 1}, {"", -1}, {"", -1}} {
		if v, which := Either(a, b); v != want.v || which != want.which {
			t.Errorf("call %d: Either = %q, %d", i, v, which)
		}
	}
}

// P10.1: both may be the same box: it is the first one that is asked.
func TestEitherOfTheSame(t *testing.T) {
	p := newPair[int](3)
	for v := range 3 {
		p.post(t, v)
	}
	for v := range 3 {
		if got, which := Either(p.b, p.b); got != v || which != 0 {
			t.Errorf("Either = %d, %d; want %d, 0", got, which, v)
		}
		p.m.fetch()
		p.same(t)
	}
	if got, which := Either(p.b, p.b); got != 0 || which != -1 {
		t.Errorf("Either of nothing = %d, %d", got, which)
	}
	p.same(t)
}

// P10.1, P1: boxes of no room, and boxes that were never made, have nothing.
func TestEitherOfNoRoom(t *testing.T) {
	none, some := New[int](0), New[int](2)
	none.Post(1)
	some.Post(2)
	some.Post(3)
	if v, which := Either(none, some); v != 2 || which != 1 {
		t.Errorf("Either = %d, %d", v, which)
	}
	if v, which := Either(some, none); v != 3 || which != 0 {
		t.Errorf("Either = %d, %d", v, which)
	}
	for _, boxes := range [][2]*Box[int]{{none, none}, {none, some}, {nil, some}, {some, nil}, {nil, nil}} {
		if v, which := Either(boxes[0], boxes[1]); v != 0 || which != -1 {
			t.Errorf("Either = %d, %d", v, which)
		}
	}
	some.Post(4)
	some.Post(5)
	if v, which := Either(nil, some); v != 4 || which != 1 {
		t.Errorf("Either = %d, %d", v, which)
	}
	if v, which := Either(some, nil); v != 5 || which != 0 {
		t.Errorf("Either = %d, %d", v, which)
	}
}

// ofType puts things of a type in, sifts, and takes them out, up to the edges.
func ofType[T comparable](t *testing.T, a, b, c T) {
	t.Helper()
	p, other := newPair[T](3), newPair[T](1)
	for _, v := range []T{a, b, a, c} {
		p.post(t, v)
		p.same(t)
	}
	p.sift(t, func(v T) bool { return v == a })
	p.same(t)
	p.post(t, c)
	p.post(t, b)
	p.fetch(t)
	p.post(t, b)
	other.post(t, b)
	other.post(t, c)
	for range 5 {
		p.either(t, other)
		p.same(t)
		other.same(t)
	}
	p.fetch(t)
	p.same(t)
}

type note struct{ dev, mask int }

type shape interface{ sides() int }

type square struct{ size float64 }

func (s square) sides() int { return 4 }

type triangle struct{ a, b, c int }

func (s triangle) sides() int { return 3 }

// P10.1: of whichever type.
func TestTypes(t *testing.T) {
	ofType(t, 1, -2, math.MaxInt)
	ofType(t, uint8(1), 0, 255)
	ofType(t, uint64(1), 0, math.MaxUint64)
	ofType(t, "a", "", "ccc")
	ofType(t, true, false, true)
	ofType(t, 1.5, math.Copysign(0, -1), math.Inf(1))
	ofType(t, 1+2i, 0, -1i)
	ofType(t, 'a', 'b', 0)
	ofType(t, note{1, 2}, note{}, note{3, 4})
	ofType(t, [3]int{1, 2, 3}, [3]int{}, [3]int{4})
	ofType(t, struct{}{}, struct{}{}, struct{}{})
	ofType(t, [0]int{}, [0]int{}, [0]int{})
	ofType(t, new(int), nil, new(int))
	ofType(t, make(chan int), nil, make(chan int))
	ofType[any](t, 1, nil, "c")
	ofType[shape](t, square{2}, nil, triangle{1, 2, 3})
	ofType[error](t, strconv.ErrRange, nil, strconv.ErrSyntax)
	ofType(t, New[int](1), nil, New[int](2))
}

// P10.1: of types that a channel has no things of: those of 64 KiB and more.
func TestGreatThings(t *testing.T) {
	type great [70000]byte
	b := New[great](4096)
	for v := range 3 {
		if !b.Post(great{0: byte(v), 69999: byte(v + 1)}) {
			t.Fatal("Post")
		}
	}
	if n := b.Sift(func(v great) bool { return v[0] != 1 }); n != 1 || b.Len() != 2 || b.Room() != 4096 {
		t.Errorf("Sift = %d", n)
	}
	if all := b.All(); len(all) != 2 || all[1][69999] != 3 {
		t.Error("All")
	}
	if v, ok := b.Fetch(); v != (great{69999: 1}) || !ok {
		t.Error("Fetch")
	}
	if v, which := Either(New[great](0), b); v != (great{0: 2, 69999: 3}) || which != 1 {
		t.Error("Either")
	}
}

// P10.1: of types whose things aren't compared: lists, maps and functions are the very ones that went in.
func TestThingsNotCompared(t *testing.T) {
	lists := New[[]int](3)
	list := []int{1, 2}
	lists.Post(list)
	lists.Post(nil)
	lists.Post([]int{})
	if lists.Sift(func(v []int) bool { return v == nil || len(v) > 0 }) != 1 {
		t.Error("Sift")
	}
	if v, ok := lists.Fetch(); !ok || &v[0] != &list[0] || len(v) != 2 {
		t.Error("Fetch of a list")
	}
	if v, ok := lists.Fetch(); !ok || v != nil {
		t.Error("Fetch of nil")
	}
	functions := New[func() int](2)
	functions.Post(func() int { return 5 })
	functions.Post(nil)
	if v, which := Either(New[func() int](1), functions); which != 1 || v() != 5 {
		t.Error("Either of functions")
	}
	maps := New[map[string]int](1)
	maps.Post(map[string]int{"a": 1})
	if v := maps.All(); len(v) != 1 || v[0]["a"] != 1 {
		t.Error("All of maps")
	}
}

// P10.1: what waits is what went in, whatever becomes of the variable it came from.
func TestThingsAreCopies(t *testing.T) {
	b := New[note](2)
	v := note{1, 2}
	b.Post(v)
	v.dev = 9
	b.Post(v)
	v.mask = 9
	if all := b.All(); !slices.Equal(all, []note{{1, 2}, {9, 2}}) {
		t.Errorf("All = %v", all)
	}
	b.Sift(func(v note) bool {
		v.dev = 77
		return true
	})
	if got, _ := b.Fetch(); got != (note{1, 2}) {
		t.Errorf("Fetch = %v", got)
	}
}

// P10.1: what All answers is new memory, spare room too, and stays as it is whatever the box does.
func TestAllIsNew(t *testing.T) {
	for count := range 20 {
		b := New[int](20)
		var want []int
		for v := range count {
			b.Post(v)
			want = append(want, v)
		}
		first, second := b.All(), b.All()
		for k := range cap(first) {
			first[:cap(first)][k] = -1
		}
		if !slices.Equal(second, want) || !slices.Equal(b.All(), want) {
			t.Fatalf("of %d: All shares what it answered", count)
		}
		b.Fetch()
		b.Post(30)
		b.Sift(func(v int) bool { return v == 30 })
		if !slices.Equal(second, want) {
			t.Fatalf("of %d: what All answered is %v", count, second)
		}
	}
}

// P10.1, P2: boxes are apart, those of one type too.
func TestApart(t *testing.T) {
	pairs := []pair[int]{newPair[int](3), newPair[int](3), newPair[int](0), newPair[int](9)}
	for i, step := range steps(5000) {
		p := pairs[step>>20%4]
		call(t, step, p, pairs[step>>30%4])
		if i%10 == 0 {
			for _, p := range pairs {
				p.same(t)
			}
		}
	}
}

// call makes one call of a step, of two boxes, which may be the same one.
func call(t *testing.T, step uint64, p, other pair[int]) {
	t.Helper()
	switch step % 10 {
	case 0, 1, 2, 3, 4:
		p.post(t, int(step>>40%20))
	case 5, 6:
		p.fetch(t)
	case 7:
		divisor := int(step>>44%6) + 1
		p.sift(t, func(v int) bool { return v%divisor != 0 })
	default:
		p.either(t, other)
	}
	p.same(t)
	other.same(t)
}

// P10.1, P2: long mixed orders of calls, of boxes of many rooms.
func TestMixedOrder(t *testing.T) {
	for _, room := range []int{-1, 0, 1, 2, 3, 5, 16, 100} {
		for _, more := range []int{0, 1, 4, 64} {
			a, b := newPair[int](room), newPair[int](more)
			for _, step := range steps(3000) {
				switch step >> 20 % 4 {
				case 0:
					call(t, step, a, b)
				case 1:
					call(t, step, b, a)
				case 2:
					call(t, step, a, a)
				default:
					call(t, step, b, b)
				}
			}
			a.empty(t)
			b.empty(t)
		}
	}
}

// P10.1: every order of six calls, of two boxes.
func TestEveryShortOrder(t *testing.T) {
	const length = 6
	calls := []func(a, b pair[int]){
		func(a, b pair[int]) { a.post(t, 1) },
		func(a, b pair[int]) { a.post(t, 2) },
		func(a, b pair[int]) { b.post(t, 3) },
		func(a, b pair[int]) { a.fetch(t) },
		func(a, b pair[int]) { a.sift(t, func(v int) bool { return v == 1 }) },
		func(a, b pair[int]) { a.sift(t, func(v int) bool { return v != 1 }) },
		func(a, b pair[int]) { a.either(t, b) },
		func(a, b pair[int]) { b.either(t, a) },
		func(a, b pair[int]) { a.either(t, a) },
	}
	orders := 1
	for range length {
		orders *= len(calls)
	}
	for order := range orders {
		a, b := newPair[int](2), newPair[int](1)
		for rest, i := order, 0; i < length; rest, i = rest/len(calls), i+1 {
			calls[rest%len(calls)](a, b)
		}
		a.same(t)
		b.same(t)
	}
}
