package num

import (
	"math"
	"math/big"
	"testing"
)

const top = math.MaxUint64

// edges are the numbers at which reckoning with 64 bits goes wrong, if it does.
func edges() []uint64 {
	list := []uint64{0, 1, 2, 3, 4, 5, 7, 10, 13, 14, 63, 64, 100, 1000, 6700417}
	for _, shift := range []int{16, 31, 32, 33, 48, 62, 63} {
		p := uint64(1) << shift
		list = append(list, p-1, p, p+1)
	}
	return append(list, 4294967297, top/3, top/3+1, top/2-1, top-7, top-3, top-2, top-1, top)
}

// spread is a fixed run of numbers of all lengths in bits.
func spread(count int) []uint64 {
	list := make([]uint64, 0, count)
	x := uint64(0x9E3779B97F4A7C15)
	for i := range count {
		x ^= x << 13
		x ^= x >> 7
		x ^= x << 17
		list = append(list, x>>(i%64))
	}
	return list
}

// inputs are all edges, and some others between them.
func inputs() []uint64 { return append(edges(), spread(64)...) }

func whole(n uint64) *big.Int { return new(big.Int).SetUint64(n) }

// overPairs hands over every pair of inputs, as they are and as numbers without end.
func overPairs(f func(a, b uint64, x, y *big.Int)) {
	list := inputs()
	for _, a := range list {
		for _, b := range list {
			f(a, b, whole(a), whole(b))
		}
	}
}

// P1.1, P1.2: a sum, or 0 and false at 2^64 and above.
func TestAddIsTheSumOrNone(t *testing.T) {
	overPairs(func(a, b uint64, x, y *big.Int) {
		want := new(big.Int).Add(x, y)
		got, ok := Add(a, b)
		checkFits(t, "Add", a, b, got, ok, want)
	})
}

// P1.1, P1.2: a product, or 0 and false at 2^64 and above.
func TestTimesIsTheProductOrNone(t *testing.T) {
	overPairs(func(a, b uint64, x, y *big.Int) {
		want := new(big.Int).Mul(x, y)
		got, ok := Times(a, b)
		checkFits(t, "Times", a, b, got, ok, want)
	})
}

func checkFits(t *testing.T, name string, a, b, got uint64, ok bool, want *big.Int) {
	t.Helper()
	if !want.IsUint64() {
		if got != 0 || ok {
			t.Errorf("%s(%d, %d) = %d, %v; want 0, false", name, a, b, got, ok)
		}
		return
	}
	if got != want.Uint64() || !ok {
		t.Errorf("%s(%d, %d) = %d, %v; want %v, true", name, a, b, got, ok, want)
	}
}

// P1.1, P1.2: a sum that stays at the greatest number.
func TestPlusStaysAtTheTop(t *testing.T) {
	overPairs(func(a, b uint64, x, y *big.Int) {
		want := uint64(top)
		if sum := new(big.Int).Add(x, y); sum.IsUint64() {
			want = sum.Uint64()
		}
		if got := Plus(a, b); got != want {
			t.Errorf("Plus(%d, %d) = %d; want %d", a, b, got, want)
		}
	})
}

// P1.1, P1.2: a difference that stays at 0.
func TestMinusStaysAtZero(t *testing.T) {
	overPairs(func(a, b uint64, x, y *big.Int) {
		want := uint64(0)
		if diff := new(big.Int).Sub(x, y); diff.Sign() > 0 {
			want = diff.Uint64()
		}
		if got := Minus(a, b); got != want {
			t.Errorf("Minus(%d, %d) = %d; want %d", a, b, got, want)
		}
	})
}

// P1.1, P1.2: the least number whose product with b is a or more; 0 of a divisor of 0.
func TestCeilIsTheLeastThatReaches(t *testing.T) {
	overPairs(func(a, b uint64, x, y *big.Int) {
		n := Ceil(a, b)
		if b == 0 {
			if n != 0 {
				t.Errorf("Ceil(%d, 0) = %d; want 0", a, n)
			}
			return
		}
		reach := new(big.Int).Mul(whole(n), y)
		if reach.Cmp(x) < 0 {
			t.Errorf("Ceil(%d, %d) = %d does not reach", a, b, n)
		}
		if n > 0 && new(big.Int).Sub(reach, y).Cmp(x) >= 0 {
			t.Errorf("Ceil(%d, %d) = %d is not the least", a, b, n)
		}
	})
}

// P1.1: of bounds in order a number is held between them.
func TestClampHoldsBetween(t *testing.T) {
	list := []int{math.MinInt, math.MinInt + 1, -4097, -1, 0, 1, 5, 9, 4096, math.MaxInt - 1, math.MaxInt}
	for _, n := range list {
		for _, lo := range list {
			for _, hi := range list {
				checkClamp(t, n, lo, hi)
			}
		}
	}
}

func checkClamp(t *testing.T, n, lo, hi int) {
	t.Helper()
	got := Clamp(n, lo, hi)
	want := n
	switch {
	case lo > hi:
		return // It is enough that it ended.
	case n < lo:
		want = lo
	case n > hi:
		want = hi
	}
	if got != want {
		t.Errorf("Clamp(%d, %d, %d) = %d; want %d", n, lo, hi, got, want)
	}
}

// P1.1: the document's examples, and the edges of Next one by one.
func TestNextOfKnownTimes(t *testing.T) {
	for _, c := range []struct {
		d, period, e, at, n uint64
		ok                  bool
	}{
		{10, 4, 13, 14, 1, true},
		{10, 4, 14, 18, 2, true},
		{10, 4, 10, 14, 1, true},
		{10, 4, 9, 14, 1, true},
		{10, 4, 0, 14, 1, true},
		{10, 4, 100, 102, 23, true},
		{0, 1, 0, 1, 1, true},
		{0, 0, 0, 0, 0, false},
		{10, 0, 3, 0, 0, false},
		{10, 0, 30, 0, 0, false},
		{0, 1, top - 1, top, top, true},
		{0, 1, top, 0, 0, false},
		{1, 1, top, 0, 0, false},
		{0, top, 0, top, 1, true},
		{0, top, top - 1, top, 1, true},
		{0, top, top, 0, 0, false},
		{1, top, 0, 0, 0, false},
		{top, 1, 0, 0, 0, false},
		{top, top, top, 0, 0, false},
		{top - 1, 1, 0, top, 1, true},
		{top - 1, 1, top - 1, top, 1, true},
		{0, 1 << 63, 1 << 63, 0, 0, false},
		{5, 1 << 63, 9, 5 + 1<<63, 1, true},
	} {
		at, n, ok := Next(c.d, c.period, c.e)
		if at != c.at || n != c.n || ok != c.ok {
			t.Errorf("Next(%d, %d, %d) = %d, %d, %v; want %d, %d, %v", c.d, c.period, c.e, at, n, ok, c.at, c.n, c.ok)
		}
	}
}

// P1.1: among small times Next is what counting on period by period comes to.
func TestNextOfSmallTimes(t *testing.T) {
	for d := range uint64(24) {
		for period := range uint64(9) {
			for e := range uint64(48) {
				checkNextByCounting(t, d, period, e)
			}
		}
	}
}

// P1.2: so it is where time ends.
func TestNextWhereTimeEnds(t *testing.T) {
	for d := range uint64(24) {
		for period := range uint64(9) {
			for e := range uint64(24) {
				checkNextByCounting(t, top-d, period, top-e)
			}
		}
	}
}

func checkNextByCounting(t *testing.T, d, period, e uint64) {
	t.Helper()
	wantAt, wantN, want := uint64(0), uint64(0), false
	for at, n := d, uint64(1); period > 0 && top-at >= period; n++ {
		at += period
		if at > e {
			wantAt, wantN, want = at, n, true
			break
		}
	}
	at, n, ok := Next(d, period, e)
	if at != wantAt || n != wantN || ok != want {
		t.Errorf("Next(%d, %d, %d) = %d, %d, %v; want %d, %d, %v", d, period, e, at, n, ok, wantAt, wantN, want)
	}
}

// P1.1, P1.2: of all times, what Next answers is such a time, and the least; where it answers none there is none.
func TestNextOfAllTimes(t *testing.T) {
	list := append(edges(), spread(16)...)
	for _, d := range list {
		for _, period := range list {
			for _, e := range list {
				checkNextByItsWords(t, d, period, e)
			}
		}
	}
}

func checkNextByItsWords(t *testing.T, d, period, e uint64) {
	t.Helper()
	at, n, ok := Next(d, period, e)
	if !ok {
		if at != 0 || n != 0 {
			t.Errorf("Next(%d, %d, %d) = %d, %d, false; want 0, 0, false", d, period, e, at, n)
		}
		if thereIsOne(d, period, e) {
			t.Errorf("Next(%d, %d, %d) finds none, but there is one", d, period, e)
		}
		return
	}
	sum := new(big.Int).Mul(whole(n), whole(period))
	sum.Add(sum, whole(d))
	if period == 0 || n == 0 || at <= e || sum.Cmp(whole(at)) != 0 {
		t.Errorf("Next(%d, %d, %d) = %d, %d, which is no such time", d, period, e, at, n)
	}
	if n > 1 && at-period > e {
		t.Errorf("Next(%d, %d, %d) = %d, %d, which is not the least", d, period, e, at, n)
	}
}

// thereIsOne tells whether the last of the times that fit is behind e.
func thereIsOne(d, period, e uint64) bool {
	if period == 0 || top-d < period {
		return false
	}
	return top-(top-d)%period > e
}

// P2: the same arguments are answered the same way, whatever was asked between.
func TestAnswersHangOnArgumentsAlone(t *testing.T) {
	type answer struct {
		add, plus, minus, times, ceil, at, n uint64
		isAdd, isTimes, isNext               bool
	}
	ask := func(a, b uint64) answer {
		var r answer
		r.add, r.isAdd = Add(a, b)
		r.plus, r.minus, r.ceil = Plus(a, b), Minus(a, b), Ceil(a, b)
		r.times, r.isTimes = Times(a, b)
		r.at, r.n, r.isNext = Next(a, b, b)
		return r
	}
	list := edges()
	var first []answer
	for _, a := range list {
		for _, b := range list {
			first = append(first, ask(a, b))
		}
	}
	for i := len(first) - 1; i >= 0; i-- {
		a, b := list[i/len(list)], list[i%len(list)]
		if got := ask(a, b); got != first[i] {
			t.Errorf("of %d and %d: %v, and then %v", a, b, first[i], got)
		}
	}
}
