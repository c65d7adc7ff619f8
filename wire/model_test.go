package wire

import (
	"encoding/binary"
	"math"
	"slices"
	"sync"

	"nightjar/api"
)

// numbersOf is how many numbers each kind of calls has, by the table of layer 14.
func numbersOf() []int { return []int{1, 0, 2, 1, 3, 1, 1, 3, 1, 1, 2, 1, 0} }

// mayAsk is layer 14's word "right", of calls.
func mayAsk(c api.Call) bool {
	if c.Op < 0 || c.Op > 12 {
		return false
	}
	n := numbersOf()[c.Op]
	return (n >= 1 || c.A == 0) && (n >= 2 || c.B == 0) && (n >= 3 || c.C == 0)
}

// mayBe is the chapter's word "right", field by field.
func mayBe(e api.Entry) bool {
	noCall := e.Call.Op == 0 && e.Call.A == 0 && e.Call.B == 0 && e.Call.C == 0
	who := e.Who >= 0 && e.Who <= 255
	switch e.Kind {
	case 0:
		return e.N >= 1 && e.N <= 100 && e.Who == 0 && noCall && e.Dev == 0 && e.Mask == 0
	case 1:
		return who && mayAsk(e.Call) && e.N == 0 && e.Dev == 0 && e.Mask == 0
	case 2:
		return who && e.Dev >= 0 && e.Dev <= 255 && e.Mask >= 1 && e.Mask <= 7 && e.N == 0 && noCall
	}
	return false
}

// wanted is a right entry's bytes, the first one with them.
func wanted(e api.Entry) []byte {
	switch e.Kind {
	case 0:
		return []byte{3, 0, byte(e.N), 0}
	case 1:
		b := []byte{27, 1, byte(e.Who), byte(e.Call.Op)}
		b = binary.LittleEndian.AppendUint64(b, e.Call.A)
		b = binary.LittleEndian.AppendUint64(b, e.Call.B)
		return binary.LittleEndian.AppendUint64(b, e.Call.C)
	}
	return []byte{4, 2, byte(e.Who), byte(e.Dev), byte(e.Mask)}
}

// wantedAll is the bytes of right entries.
func wantedAll(list []api.Entry) []byte {
	var b []byte
	for _, e := range list {
		b = append(b, wanted(e)...)
	}
	return b
}

// told is the right entry that has bytes, by trying what it could be: the bytes of what they seem to tell must be they.
func told(b []byte) (api.Entry, bool) {
	var e api.Entry
	switch {
	case len(b) == 3:
		e = api.Entry{Kind: 0, N: int(b[1])}
	case len(b) == 4:
		e = api.Entry{Kind: 2, Who: int(b[1]), Dev: int(b[2]), Mask: int(b[3])}
	case len(b) == 27:
		e = api.Entry{Kind: 1, Who: int(b[1])}
		e.Call.Op = int(b[2])
		e.Call.A = binary.LittleEndian.Uint64(b[3:])
		e.Call.B = binary.LittleEndian.Uint64(b[11:])
		e.Call.C = binary.LittleEndian.Uint64(b[19:])
	}
	if !mayBe(e) || !slices.Equal(wanted(e)[1:], b) {
		return api.Entry{}, false
	}
	return e, true
}

// toldAll is the first 2048 entries of bytes.
func toldAll(b []byte) []api.Entry {
	var list []api.Entry
	at := 0
	for at < len(b) && at+1+int(b[at]) <= len(b) {
		next := at + 1 + int(b[at])
		if e, ok := told(b[at+1 : next]); ok {
			list = append(list, e)
		}
		at = next
	}
	return list[:min(len(list), 2048)]
}

// numbers are a field's values at bounds from low to high, below and above them, at the ends of an int, and some that
// are within the bounds if they are cut to a byte, two, or four.
func numbers(low, high int) []int {
	return []int{math.MinInt, -1 << 32, -256, -1, 0, low - 1, low, low + 1, high - 1, high, high + 1, 256, 256 + high, 1 << 16, 1<<16 + low, 1<<32 + high, math.MaxInt}
}

// calls are calls that are right and such as aren't: of each kind with no numbers, with all that it has, and with one
// more; and of no kind.
func calls() []api.Call {
	var list []api.Call
	for op, n := range numbersOf() {
		list = append(list, api.Call{Op: op})
		for _, x := range []uint64{1, 1 << 63, math.MaxUint64} {
			for many := n; many <= n+1 && many <= 3; many++ {
				list = append(list, callOf(op, many, x))
			}
		}
		list = append(list, api.Call{Op: op, A: 0x0102030405060708}, api.Call{Op: op, B: 256}, api.Call{Op: op, C: 1 << 32})
	}
	for _, op := range []int{math.MinInt, -256, -1, 13, 14, 255, 256, 268, 1 << 32, math.MaxInt} {
		list = append(list, api.Call{Op: op}, api.Call{Op: op, A: 1})
	}
	return list
}

// callOf is a call of a kind with so many numbers that aren't 0.
func callOf(op, many int, x uint64) api.Call {
	c := api.Call{Op: op}
	for at, n := range []*uint64{&c.A, &c.B, &c.C} {
		if at < many {
			*n = x
		}
	}
	return c
}

// entries are entries of every kind and of none: with the fields that their kind has at, below and above their bounds,
// and with others that aren't 0.
func entries() []api.Entry {
	var plain []api.Entry
	for _, n := range numbers(1, 100) {
		plain = append(plain, api.Entry{Kind: 0, N: n})
	}
	for _, who := range numbers(0, 255) {
		for _, c := range calls() {
			plain = append(plain, api.Entry{Kind: 1, Who: who, Call: c})
		}
		for _, dev := range numbers(0, 255) {
			for _, mask := range numbers(1, 7) {
				plain = append(plain, api.Entry{Kind: 2, Who: who, Dev: dev, Mask: mask})
			}
		}
	}
	list := slices.Clone(plain)
	for _, e := range plain {
		list = append(list, withMore(e)...)
	}
	for _, kind := range []int{math.MinInt, -256, -1, 3, 4, 255, 256, 257, 258, 1 << 32, 1<<32 + 1, 1<<32 + 2, math.MaxInt} {
		list = append(list, api.Entry{Kind: kind}, api.Entry{Kind: kind, N: 1}, api.Entry{Kind: kind, Mask: 1}, api.Entry{Kind: kind, Who: 1}, api.Entry{Kind: kind, Call: api.Call{Op: 12}})
	}
	return list
}

// withMore are entries that are another one but for one field.
func withMore(e api.Entry) []api.Entry {
	var list []api.Entry
	for _, n := range []int{-1, 1, 256, 1 << 32} {
		for field := range 8 {
			other := e
			switch field {
			case 0:
				other.N += n
			case 1:
				other.Who += n
			case 2:
				other.Dev += n
			case 3:
				other.Mask += n
			case 4:
				other.Call.Op += n
			case 5:
				other.Call.A += uint64(n)
			case 6:
				other.Call.B += uint64(n)
			case 7:
				other.Call.C += uint64(n)
			}
			list = append(list, other)
		}
	}
	return list
}

// rights are all right entries of those.
var rights = sync.OnceValue(func() []api.Entry {
	return slices.DeleteFunc(entries(), func(e api.Entry) bool { return !mayBe(e) })
})

// steps is a fixed run of numbers without rhyme.
func steps(count int) []uint64 {
	list := make([]uint64, count)
	x := uint64(0x9E3779B97F4A7C15)
	for i := range list {
		x ^= x << 13
		x ^= x >> 7
		x ^= x << 17
		list[i] = x * 0x2545F4914F6CDD1D
	}
	return list
}

// junk is bytes that no entry has, behind one that tells how many: any bytes, or a right entry's of which one is another,
// or that are cut short, or too long.
func junk(x uint64, of api.Entry) []byte {
	body := wanted(of)[1:]
	switch x % 4 {
	case 0:
		body = make([]byte, x>>8%256)
		for i := range body {
			body[i] = byte(x >> (i % 57))
		}
	case 1:
		body[int(x>>8)%len(body)] ^= byte(x >> 24)
	case 2:
		body = body[:int(x>>8)%len(body)]
	case 3:
		body = append(body, body[:1+int(x>>8)%len(body)]...)
	}
	if _, ok := told(body); ok {
		body = append(body, body...)
	}
	return append([]byte{byte(len(body))}, body...)
}
