package wire

import (
	"bytes"
	"slices"
	"testing"

	"nightjar/api"
)

// P15.1: the document's own example.
func TestExample(t *testing.T) {
	list := []api.Entry{{Kind: api.Tick, N: 5}, {Kind: api.Ready, Who: 1, Dev: 2, Mask: api.In | api.Out}}
	want := []byte{3, 0, 5, 0, 4, 2, 1, 2, 3}
	if b, err := Write(list); err != api.OK || !bytes.Equal(b, want) {
		t.Errorf("Write = %v, %v; want %v", b, err, want)
	}
	if got, err := Read(want); err != api.OK || !slices.Equal(got, list) {
		t.Errorf("Read = %v, %v; want %v", got, err, list)
	}
}

// checkWrite holds the bytes of entries against the chapter's words, and what is read of them against the entries.
func checkWrite(t *testing.T, list []api.Entry) {
	t.Helper()
	want, wantErr := wantedAll(list), api.OK
	switch {
	case len(list) > 2048:
		want, wantErr = nil, api.ErrMany
	case slices.ContainsFunc(list, func(e api.Entry) bool { return !mayBe(e) }):
		want, wantErr = nil, api.ErrForm
	}
	b, err := Write(list)
	if err != wantErr || !bytes.Equal(b, want) {
		t.Fatalf("Write(%.300v) = %.300v, %d; want %.300v, %d", list, b, err, want, wantErr)
	}
	if wantErr != api.OK {
		return
	}
	if got, err := Read(b); err != api.OK || !slices.Equal(got, list) {
		t.Fatalf("Read(%.300v) = %.300v, %d; want %.300v", b, got, err, list)
	}
}

// checkOne holds the entry of bytes against the chapter's words.
func checkOne(t *testing.T, b []byte) {
	t.Helper()
	want, is := told(b)
	if e, ok := One(b); ok != is || e != want {
		t.Fatalf("One(%v) = %v, %v; want %v, %v", b, e, ok, want, is)
	}
}

// checkRead holds the entries of bytes against the chapter's words.
func checkRead(t *testing.T, b []byte) {
	t.Helper()
	want, wantErr := []api.Entry(nil), api.ErrLong
	if len(b) <= 65536 {
		want, wantErr = toldAll(b), api.OK
	}
	if list, err := Read(b); err != wantErr || !slices.Equal(list, want) {
		t.Fatalf("Read(%.300v) = %.300v, %d; want %.300v, %d", b, list, err, want, wantErr)
	}
}

// P15.1: entries of every kind, each field at, below and above its bounds, with fields that the kind doesn't have, with
// calls that aren't right, and entries of no kind: right or not, written or not, and read as they were written.
func TestEntries(t *testing.T) {
	count := map[int]int{}
	for _, e := range entries() {
		if Right(e) != mayBe(e) {
			t.Fatalf("Right(%v) = %v", e, Right(e))
		}
		checkWrite(t, []api.Entry{e})
		if !mayBe(e) {
			continue
		}
		count[e.Kind]++
		if got, ok := One(wanted(e)[1:]); !ok || got != e {
			t.Fatalf("One = %v, %v; want %v", got, ok, e)
		}
	}
	if len(count) != 3 {
		t.Errorf("there were right entries of %d kinds", len(count))
	}
}

// P15.1: the bounds that the chapter names, one by one.
func TestBounds(t *testing.T) {
	used := api.Call{Op: api.Used, A: 3}
	for _, c := range []struct {
		e  api.Entry
		is bool
	}{
		{api.Entry{N: 0}, false},
		{api.Entry{N: 1}, true},
		{api.Entry{N: 100}, true},
		{api.Entry{N: 101}, false},
		{api.Entry{Kind: 1, Who: -1, Call: used}, false},
		{api.Entry{Kind: 1, Who: 0, Call: used}, true},
		{api.Entry{Kind: 1, Who: 255, Call: used}, true},
		{api.Entry{Kind: 1, Who: 256, Call: used}, false},
		{api.Entry{Kind: 1}, true}, // open of the device 0
		{api.Entry{Kind: 1, Call: api.Call{Op: api.Now, A: 1}}, false},
		{api.Entry{Kind: 1, Call: api.Call{Op: api.Calls}}, false},
		{api.Entry{Kind: 2, Mask: 0}, false},
		{api.Entry{Kind: 2, Mask: 1}, true},
		{api.Entry{Kind: 2, Mask: 7}, true},
		{api.Entry{Kind: 2, Mask: 8}, false},
		{api.Entry{Kind: 2, Mask: 1, Who: -1}, false},
		{api.Entry{Kind: 2, Mask: 1, Who: 255, Dev: 255}, true},
		{api.Entry{Kind: 2, Mask: 1, Who: 256}, false},
		{api.Entry{Kind: 2, Mask: 1, Dev: -1}, false},
		{api.Entry{Kind: 2, Mask: 1, Dev: 256}, false},
		{api.Entry{Kind: 3, N: 1}, false},
		{api.Entry{Kind: -1, N: 1}, false},
	} {
		if Right(c.e) != c.is {
			t.Errorf("Right(%v) = %v", c.e, !c.is)
		}
	}
}

// P15.1: of no entries there are no bytes, and of no bytes no entries.
func TestNone(t *testing.T) {
	for _, list := range [][]api.Entry{nil, {}} {
		if b, err := Write(list); err != api.OK || len(b) != 0 {
			t.Errorf("Write = %v, %d", b, err)
		}
	}
	for _, b := range [][]byte{nil, {}} {
		if list, err := Read(b); err != api.OK || len(list) != 0 {
			t.Errorf("Read = %v, %d", list, err)
		}
		checkOne(t, b)
	}
}

// mixed is so many right entries, of all kinds in turn.
func mixed(count int) []api.Entry {
	all := rights()
	list := make([]api.Entry, count)
	for i, x := range steps(count) {
		list[i] = all[x%uint64(len(all))]
		if i%3 == 0 {
			list[i] = api.Entry{N: 1 + i%100}
		}
	}
	return list
}

// longest is an entry of the most bytes.
func longest() api.Entry {
	return api.Entry{Kind: 1, Who: 255, Call: api.Call{Op: api.Watch, A: 1 << 63, B: 255, C: 256}}
}

// P15.1, P15.2: up to MaxEntries entries are written, and read, one more isn't; the longest ones too.
func TestManyEntries(t *testing.T) {
	for _, count := range []int{1, 2, 3, 100, 2047, 2048, 2049, 2050, 4096, 4097, 1 << 16, 1<<16 + 1} {
		checkWrite(t, mixed(count))
		checkWrite(t, slices.Repeat([]api.Entry{longest()}, count))
		checkWrite(t, slices.Repeat([]api.Entry{{N: 1}}, count))
	}
}

// P15.1: of too many entries one of which isn't right it is told that they are too many; one that isn't right is found
// wherever it is, and nothing is written.
func TestErrorsInOrder(t *testing.T) {
	for _, wrong := range []api.Entry{{}, {Kind: 3}, {N: 101}, {Kind: 1, Call: api.Call{Op: 13}}, {Kind: 2}} {
		for _, count := range []int{1, 2, 10, 2047, 2048, 2049, 5000} {
			for _, at := range []int{0, 1, count / 2, 2047, 2048, count - 1} {
				list := mixed(count)
				if at < count {
					list[at] = wrong
				}
				checkWrite(t, list)
			}
		}
	}
}

// P15.1: all bytes of up to three.
func TestOneOfFewBytes(t *testing.T) {
	checkOne(t, nil)
	for a := range 256 {
		checkOne(t, []byte{byte(a)})
		for b := range 256 {
			checkOne(t, []byte{byte(a), byte(b)})
			for c := range 256 {
				if a < 4 || b%16 == 1 || c < 2 {
					checkOne(t, []byte{byte(a), byte(b), byte(c)})
				}
			}
		}
	}
}

// P15.1: each byte of a right entry's as any other one.
func TestOneByBytes(t *testing.T) {
	list := []api.Entry{{N: 1}, {N: 100}, {Kind: 2, Mask: 1}, {Kind: 2, Who: 255, Dev: 255, Mask: 7}}
	for op, n := range numbersOf() {
		list = append(list, api.Entry{Kind: 1, Call: api.Call{Op: op}}, api.Entry{Kind: 1, Who: 255, Call: callOf(op, n, 1<<64-1)})
	}
	for _, e := range list {
		b := wanted(e)[1:]
		for at, was := range b {
			for other := range 256 {
				b[at] = byte(other)
				checkOne(t, b)
			}
			b[at] = was
		}
	}
}

// P15.1: a right entry's bytes, cut short at every place, and with more behind them, are none's.
func TestOneOfOtherLengths(t *testing.T) {
	for _, e := range []api.Entry{{N: 7}, longest(), {Kind: 1, Call: api.Call{Op: 12}}, {Kind: 2, Who: 1, Dev: 2, Mask: 3}} {
		b := wanted(e)
		for cut := range b {
			checkOne(t, b[:cut])
			checkOne(t, b[cut:])
			if _, ok := One(b[1:][:cut]); cut < len(b)-1 && ok {
				t.Errorf("One(%v)", b[1:][:cut])
			}
		}
		for more := 1; more < 300; more++ {
			if e, ok := One(append(slices.Clone(b[1:]), make([]byte, more)...)); ok || e != (api.Entry{}) {
				t.Errorf("%v with %d more", b[1:], more)
			}
		}
	}
	for kind := range 256 {
		for length := range 300 {
			b := make([]byte, 1+length)
			b[0] = byte(kind)
			checkOne(t, b)
			b[length] = 1
			checkOne(t, b)
		}
	}
	checkOne(t, make([]byte, 1<<20))
}

// P15.1: bytes of every first one, with as many behind it, one fewer, and others behind those.
func TestReadByFirstByte(t *testing.T) {
	tick := wanted(api.Entry{N: 9})
	for first := range 256 {
		for _, fill := range []byte{0, 1, 2, 3, 255} {
			body := slices.Repeat([]byte{fill}, first)
			whole := append([]byte{byte(first)}, body...)
			checkRead(t, whole)
			checkRead(t, whole[:first])
			checkRead(t, slices.Concat(whole, tick))
			checkRead(t, slices.Concat(whole[:first], tick))
			checkRead(t, slices.Concat(tick, whole, tick, whole, tick))
			checkRead(t, slices.Concat(tick, whole[:first]))
		}
	}
}

// P15.1: bytes that tell that none follow are passed over, and bytes that end too early aren't read.
func TestReadAtTheEdges(t *testing.T) {
	tick, want := wanted(api.Entry{N: 9}), []api.Entry{{N: 9}}
	for _, b := range [][]byte{
		tick,
		slices.Concat([]byte{0}, tick),
		slices.Concat(make([]byte, 65532), tick),
		slices.Concat(tick, []byte{0, 0, 0}),
		slices.Concat(tick, []byte{1}),
		slices.Concat(tick, []byte{3, 0, 9}),
		slices.Concat(tick, []byte{4}, tick[1:]),
		slices.Concat([]byte{4}, tick, tick),
		slices.Concat(tick, []byte{255}, make([]byte, 254)),
		slices.Concat([]byte{255}, bytes.Repeat([]byte{3, 0, 1, 0, 0}, 51), tick),
		slices.Concat(tick, bytes.Repeat([]byte{255}, 255)),
	} {
		if got, err := Read(b); err != api.OK || !slices.Equal(got, want) {
			t.Errorf("Read(%.60v) = %v, %d", b, got, err)
		}
		checkRead(t, b)
	}
}

// P15.1, P15.2: what was written, cut short at every place: the entries that are whole are read.
func TestReadOfCutBytes(t *testing.T) {
	list := []api.Entry{{N: 7}, longest(), {Kind: 2, Who: 1, Dev: 2, Mask: 3}, {Kind: 1, Call: api.Call{Op: 12}}, {N: 100}}
	b, _ := Write(list)
	whole := 0
	for cut := range len(b) + 1 {
		for whole < len(list) && len(wantedAll(list[:whole+1])) <= cut {
			whole++
		}
		if got, err := Read(b[:cut]); err != api.OK || !slices.Equal(got, list[:whole]) {
			t.Errorf("Read of %d bytes = %v, %d", cut, got, err)
		}
		checkRead(t, b[cut:])
	}
}

// P15.1: of bytes with more entries than MaxEntries the first ones are read, whatever stands between and behind them.
func TestReadOfManyEntries(t *testing.T) {
	tick, pass := []byte{3, 0, 1, 0}, []byte{2, 0, 1}
	for _, count := range []int{2047, 2048, 2049, 2050, 4096} {
		checkRead(t, bytes.Repeat(tick, count))
		checkRead(t, bytes.Repeat(slices.Concat(pass, tick, pass), count))
		checkRead(t, slices.Concat(bytes.Repeat([]byte{0}, 4096), bytes.Repeat(tick, count)))
		checkRead(t, slices.Concat(bytes.Repeat(tick, count-1), wanted(api.Entry{N: 100}), wanted(api.Entry{Kind: 2, Mask: 7})))
		checkRead(t, slices.Concat(bytes.Repeat(tick, count), []byte{255}))
	}
	checkRead(t, bytes.Repeat(tick, 65536/4))
}

// P15.1: up to MaxBytes bytes are read, one more isn't, whatever they are.
func TestReadOfManyBytes(t *testing.T) {
	for _, length := range []int{65535, 65536, 65537, 65538, 1<<17 - 1, 1 << 17, 1<<17 + 4, 1 << 20} {
		for _, fill := range []byte{0, 1, 2, 3, 27, 254, 255} {
			checkRead(t, bytes.Repeat([]byte{fill}, length))
		}
		b := slices.Concat(make([]byte, length-4), wanted(api.Entry{N: 3}))
		checkRead(t, b)
		list, err := Read(b)
		if length <= 65536 && (len(list) != 1 || err != api.OK) {
			t.Errorf("of %d bytes %d entries, %d", length, len(list), err)
		}
		if length > 65536 && (len(list) != 0 || err != api.ErrLong) {
			t.Errorf("of %d bytes %d entries, %d", length, len(list), err)
		}
	}
}

// P15.2: what is written is read as it, whatever stands between that is no entry.
func TestReadBetweenJunk(t *testing.T) {
	for _, x := range steps(1500) {
		list := mixed(int(x % 60))
		var b []byte
		for i, y := range steps(2 * len(list)) {
			if y ^= x; y>>40%3 > 0 {
				b = append(b, junk(y, list[i/2])...)
			}
			if i%2 == 1 {
				one, err := Write(list[i/2 : i/2+1])
				if err != api.OK {
					t.Fatalf("Write(%v) = %d", list[i/2], err)
				}
				b = append(b, one...)
			}
		}
		if got, err := Read(b); err != api.OK || !slices.Equal(got, list) {
			t.Fatalf("Read(%v) = %v, %d; want %v", b, got, err, list)
		}
		checkRead(t, b[:len(b)-int(x>>32)%(1+len(b))])
	}
}

// P15.1: any bytes.
func TestReadOfAnyBytes(t *testing.T) {
	for k, x := range steps(3000) {
		b := make([]byte, x%300)
		for i, y := range steps(len(b)) {
			b[i] = byte(y * x >> 30)
			if y>>50%4 > 0 {
				b[i] %= byte(2 + k%30)
			}
		}
		checkRead(t, b)
		for at := range b {
			checkOne(t, b[at:min(len(b), at+[]int{3, 4, 27}[at%3])])
		}
	}
}

// What is handed in stays as it was, and so does what stands behind it; what was answered doesn't hang on it any more.
func TestWhatIsHandedInStays(t *testing.T) {
	list := append(mixed(50), api.Entry{Kind: 7, N: 7})
	was := slices.Clone(list)
	b, _ := Write(list[:50])
	if !slices.Equal(list, was) {
		t.Error("Write changed its entries")
	}
	clear(list)
	if !bytes.Equal(b, wantedAll(was[:50])) {
		t.Error("Write kept its entries")
	}
	held := append(slices.Clone(b), 9, 9, 9)
	got, _ := Read(held[:len(b)])
	one, _ := One(held[1:4])
	if !bytes.Equal(held[:len(b)], b) || !bytes.Equal(held[len(b):], []byte{9, 9, 9}) {
		t.Error("Read or One changed its bytes")
	}
	clear(held)
	if !slices.Equal(got, was[:50]) || one != was[0] {
		t.Error("Read or One kept its bytes")
	}
}

// P2: what is answered is new memory, its spare room too, and is the same again.
func TestAnswersAreNewMemory(t *testing.T) {
	list := mixed(40)
	b, _ := Write(list)
	other, _ := Write(list)
	for i := range b[:cap(b)] {
		b[:cap(b)][i] = 0xAA
	}
	if again, err := Write(list); err != api.OK || !bytes.Equal(other, again) || !bytes.Equal(other, wantedAll(list)) {
		t.Error("what Write answers is shared")
	}
	got, _ := Read(other)
	more, _ := Read(other)
	for i := range got[:cap(got)] {
		got[:cap(got)][i] = api.Entry{Kind: 9}
	}
	if again, err := Read(other); err != api.OK || !slices.Equal(more, again) || !slices.Equal(more, list) {
		t.Error("what Read answers is shared")
	}
}
