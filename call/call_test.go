package call

import (
	"bytes"
	"encoding/binary"
	"math"
	"slices"
	"strings"
	"testing"

	"nightjar/api"
)

// row is a line of the chapter's table, its numbers as they stand there.
type row struct {
	op   int
	form Form
}

func table() []row {
	return []row{
		{0, Form{"open", 1, 0, 0}},
		{1, Form{"timer", 0, 0, 0}},
		{2, Form{"dup", 2, 0, 8}},
		{3, Form{"drop", 1, 0, 0}},
		{4, Form{"arm", 3, 1, 1}},
		{5, Form{"stop", 1, 1, 2}},
		{6, Form{"when", 1, 1, 4}},
		{7, Form{"watch", 3, 2, 1}},
		{8, Form{"unwatch", 1, 2, 2}},
		{9, Form{"cond", 1, 2, 4}},
		{10, Form{"ack", 2, 2, 4}},
		{11, Form{"used", 1, 0, 0}},
		{12, Form{"now", 0, 0, 0}},
	}
}

// noOps are numbers of no kind, near the kinds, at the ends of an int, and such as are a kind if they are cut to a byte,
// or to 32 bits.
func noOps() []int {
	return []int{math.MinInt, math.MinInt + 4, -1 << 32, -256, -252, -13, -12, -2, -1, 13, 14, 25, 127, 128, 255, 256, 260, 268, 1 << 32, 1<<32 + 4, math.MaxInt - 1, math.MaxInt}
}

// numbersToTry are numbers of all lengths in bytes.
func numbersToTry() []uint64 {
	list := []uint64{0, 1, 2, 3, 127, 128, 255}
	for width := range 7 {
		n := uint64(256) << (8 * width)
		list = append(list, n-1, n, n+1)
	}
	return append(list, 0x0102030405060708, 1<<63-1, 1<<63, math.MaxUint64-1, math.MaxUint64)
}

// fewNumbers are some of them, to try all three together.
func fewNumbers() []uint64 {
	return []uint64{0, 1, 255, 256, 0xF1F2F3F4F5F6F7F8, 1 << 32, 1 << 63, math.MaxUint64}
}

// isRight is the chapter's word "right", number by number.
func isRight(c api.Call) bool {
	for _, r := range table() {
		if r.op == c.Op {
			return (r.form.Args > 0 || c.A == 0) && (r.form.Args > 1 || c.B == 0) && (r.form.Args > 2 || c.C == 0)
		}
	}
	return false
}

// wanted is a right call's bytes.
func wanted(c api.Call) []byte {
	b := []byte{byte(c.Op)}
	b = binary.LittleEndian.AppendUint64(b, c.A)
	b = binary.LittleEndian.AppendUint64(b, c.B)
	return binary.LittleEndian.AppendUint64(b, c.C)
}

// P14.1: every kind has its row, and there is no other.
func TestOf(t *testing.T) {
	if len(table()) != api.Calls {
		t.Fatalf("%d rows", len(table()))
	}
	for _, r := range table() {
		if form, ok := Of(r.op); !ok || form != r.form {
			t.Errorf("Of(%d) = %v, %v; want %v", r.op, form, ok, r.form)
		}
	}
	for _, op := range noOps() {
		if form, ok := Of(op); ok || form != (Form{}) {
			t.Errorf("Of(%d) = %v, %v; want none", op, form, ok)
		}
	}
}

// P14.1: the kinds have the numbers that api names.
func TestNamesOfApi(t *testing.T) {
	ops := map[string]int{
		"open": api.Open, "timer": api.Timer, "dup": api.Dup, "drop": api.Drop, "arm": api.Arm, "stop": api.Stop,
		"when": api.When, "watch": api.Watch, "unwatch": api.Unwatch, "cond": api.Cond, "ack": api.Ack,
		"used": api.Used, "now": api.Now,
	}
	for name, op := range ops {
		if form, ok := Of(op); !ok || form.Name != name {
			t.Errorf("Of(%d) = %v, %v; want %s", op, form, ok, name)
		}
	}
}

// named is the kind of a name by the chapter's table.
func named(name string) (int, bool) {
	for _, r := range table() {
		if r.form.Name == name {
			return r.op, true
		}
	}
	return 0, false
}

func checkNamed(t *testing.T, name string) {
	t.Helper()
	wantOp, want := named(name)
	if op, ok := Named(name); op != wantOp || ok != want {
		t.Errorf("Named(%q) = %d, %v; want %d, %v", name, op, ok, wantOp, want)
	}
}

// P14.1: every name has its kind; none, another one, one in other letters, with a blank, cut short or too long has none.
func TestNamed(t *testing.T) {
	for _, r := range table() {
		name := r.form.Name
		if op, ok := Named(name); !ok || op != r.op {
			t.Errorf("Named(%q) = %d, %v; want %d", name, op, ok, r.op)
		}
		for _, wrong := range wrongNames(name) {
			if op, ok := Named(wrong); ok || op != 0 {
				t.Errorf("Named(%q) = %d, %v; want none", wrong, op, ok)
			}
		}
	}
	for _, wrong := range []string{"", " ", "\x00", "tick", "ready", "ask", "alarm", "signal", "close", "0", "12", "-1", "opentimer", strings.Repeat("now", 1<<16)} {
		if op, ok := Named(wrong); ok || op != 0 {
			t.Errorf("Named(%.20q) = %d, %v; want none", wrong, op, ok)
		}
	}
}

// wrongNames are names near a name that are none.
func wrongNames(name string) []string {
	list := []string{
		strings.ToUpper(name), strings.ToUpper(name[:1]) + name[1:], name[:len(name)-1] + strings.ToUpper(name[len(name)-1:]),
		" " + name, name + " ", name[:1] + " " + name[1:], name + "\n", "\t" + name, name + "\x00", "\x00" + name,
		name + name, name + "s", name + "\xff", name + ",", "\ufeff" + name, name + "\u0301",
	}
	for cut := range len(name) {
		list = append(list, name[:cut])
		if cut > 0 {
			list = append(list, name[cut:])
		}
	}
	// What is left of "unwatch" is a name itself.
	return slices.DeleteFunc(list, func(s string) bool { return s == "watch" })
}

// P14.1: no other byte in a name's place, and no other name of up to three small letters, is a name.
func TestNamedByBytes(t *testing.T) {
	for _, r := range table() {
		for at := range len(r.form.Name) {
			for b := range 256 {
				name := []byte(r.form.Name)
				name[at] = byte(b)
				checkNamed(t, string(name))
			}
		}
	}
	for a := 'a'; a <= 'z'; a++ {
		checkNamed(t, string(a))
		for b := 'a'; b <= 'z'; b++ {
			checkNamed(t, string([]rune{a, b}))
			for c := 'a'; c <= 'z'; c++ {
				checkNamed(t, string([]rune{a, b, c}))
			}
		}
	}
}

// ops are all kinds, and numbers of none.
func ops() []int {
	list := noOps()
	for op := range api.Calls {
		list = append(list, op)
	}
	return list
}

// overCalls hands over calls of every kind and of none, with every choice of few numbers, and with each of many numbers
// in each place alone.
func overCalls(f func(c api.Call)) {
	few := fewNumbers()
	for _, op := range ops() {
		for _, a := range few {
			for _, b := range few {
				for _, c := range few {
					f(api.Call{Op: op, A: a, B: b, C: c})
				}
			}
		}
		for _, n := range numbersToTry() {
			f(api.Call{Op: op, A: n})
			f(api.Call{Op: op, B: n})
			f(api.Call{Op: op, C: n})
		}
	}
}

// P14.1: a call is right, if its kind is one, and the numbers that the kind doesn't have are 0.
func TestRight(t *testing.T) {
	rights := 0
	overCalls(func(c api.Call) {
		if Right(c) != isRight(c) {
			t.Fatalf("Right(%v) = %v", c, Right(c))
		}
		if Right(c) {
			rights++
		}
	})
	if rights == 0 {
		t.Error("no call is right")
	}
}

// P14.1: each bit of a number that the kind doesn't have makes a call wrong, and of one that it has doesn't.
func TestRightByBits(t *testing.T) {
	for _, r := range table() {
		for bit := range 64 {
			n := uint64(1) << bit
			for at, c := range []api.Call{{Op: r.op, A: n}, {Op: r.op, B: n}, {Op: r.op, C: n}} {
				if want := at < r.form.Args; Right(c) != want {
					t.Errorf("Right(%v) = %v", c, !want)
				}
			}
		}
	}
}

// P14.1: the document's own example.
func TestExample(t *testing.T) {
	c := api.Call{Op: api.Arm, A: 258, B: 3}
	want := append([]byte{4, 2, 1, 0, 0, 0, 0, 0, 0, 3}, make([]byte, 15)...)
	b, ok := Bytes(c)
	if !ok || !bytes.Equal(b, want) {
		t.Errorf("Bytes = %v, %v; want %v", b, ok, want)
	}
	if got, ok := Read(want); !ok || got != c {
		t.Errorf("Read = %v, %v; want %v", got, ok, c)
	}
}

// P14.1, P14.2: a right call's bytes are its 25, and are read as it; one that isn't right has none.
func TestBytes(t *testing.T) {
	overCalls(func(c api.Call) {
		b, ok := Bytes(c)
		if !isRight(c) {
			if ok || len(b) != 0 {
				t.Fatalf("Bytes(%v) = %v, %v; want none", c, b, ok)
			}
			return
		}
		if !ok || len(b) != 25 || !bytes.Equal(b, wanted(c)) {
			t.Fatalf("Bytes(%v) = %v, %v; want %v", c, b, ok, wanted(c))
		}
		if got, ok := Read(b); !ok || got != c {
			t.Fatalf("Read(%v) = %v, %v; want %v", b, got, ok, c)
		}
	})
}

// checkRead holds what is read of bytes against the only call that can have them.
func checkRead(t *testing.T, b []byte) {
	t.Helper()
	c, ok := Read(b)
	if len(b) != 25 {
		if ok || c != (api.Call{}) {
			t.Fatalf("Read of %d bytes = %v, %v", len(b), c, ok)
		}
		return
	}
	want := api.Call{
		Op: int(b[0]),
		A:  binary.LittleEndian.Uint64(b[1:]),
		B:  binary.LittleEndian.Uint64(b[9:]),
		C:  binary.LittleEndian.Uint64(b[17:]),
	}
	if !isRight(want) {
		if ok || c != (api.Call{}) {
			t.Fatalf("Read(%v) = %v, %v; want none", b, c, ok)
		}
		return
	}
	if !ok || c != want {
		t.Fatalf("Read(%v) = %v, %v; want %v", b, c, ok, want)
	}
	if back, ok := Bytes(c); !ok || !bytes.Equal(back, b) {
		t.Fatalf("Bytes(%v) = %v, %v; want %v", c, back, ok, b)
	}
}

// P14.1: of fewer and of more than 25 bytes, and of none, nothing is read.
func TestReadOfOtherLengths(t *testing.T) {
	checkRead(t, nil)
	for _, first := range []byte{0, 1, 4, 12, 13, 255} {
		for length := range 120 {
			b := make([]byte, length)
			if length > 0 {
				b[0] = first
			}
			checkRead(t, b)
		}
		for _, length := range []int{25 + 256, 25 * 2, 25 * 3, 1 << 16, 1<<16 + 25} {
			b := make([]byte, length)
			b[0] = first
			checkRead(t, b)
		}
	}
}

// P14.1: what was written, cut short at every place, and with more behind it, is no call.
func TestReadOfCutBytes(t *testing.T) {
	for _, r := range table() {
		whole := wanted(fullest(r))
		for cut := range whole {
			checkRead(t, whole[:cut])
			checkRead(t, whole[cut:])
		}
		checkRead(t, append(slices.Clone(whole), 0))
		checkRead(t, append(slices.Clone(whole), whole...))
	}
}

// fullest is a call of a kind, whose numbers have no byte that is 0.
func fullest(r row) api.Call {
	c := api.Call{Op: r.op}
	for at, n := range []*uint64{&c.A, &c.B, &c.C} {
		if at < r.form.Args {
			*n = 0x0102030405060708 * uint64(at+1)
		}
	}
	return c
}

// P14.1, P14.2: of 25 bytes with any first one, and any one of the others that isn't 0, the right call is read that has
// them, or none.
func TestReadByBytes(t *testing.T) {
	for first := range 256 {
		b := make([]byte, 25)
		b[0] = byte(first)
		checkRead(t, b)
		for at := 1; at < 25; at++ {
			for _, n := range []byte{1, 2, 127, 128, 255} {
				b[at] = n
				checkRead(t, b)
			}
			b[at] = 0
		}
		checkRead(t, slices.Concat(b[:1], bytes.Repeat([]byte{255}, 24)))
	}
}

// steps is a fixed run of numbers without rhyme.
func steps(count int) []uint64 {
	list := make([]uint64, count)
	x := uint64(0x9E3779B97F4A7C15)
	for i := range list {
		x ^= x << 13
		x ^= x >> 7
		x ^= x << 17
		list[i] = x
	}
	return list
}

// P14.1, P14.2: and of many others: of any bytes, and of those whose last ones are 0.
func TestReadOfManyBytes(t *testing.T) {
	for _, x := range steps(40000) {
		var b []byte
		for _, n := range []uint64{x, x * 0x2545F4914F6CDD1D, x * 0x9E3779B97F4A7C15, x >> 7} {
			b = binary.LittleEndian.AppendUint64(b, n)
		}
		b = b[:25]
		b[0] = byte(x>>20) % 16
		clear(b[1+x>>30%25:])
		checkRead(t, b)
	}
}

// Bytes that are handed in stay as they were, and so do those behind them; what was read doesn't hang on them any more.
func TestReadLeavesItsBytes(t *testing.T) {
	for _, r := range table() {
		for _, length := range []int{24, 25, 26} {
			held := append(wanted(fullest(r)), bytes.Repeat([]byte{7}, 30)...)
			was := slices.Clone(held)
			c, ok := Read(held[:length])
			if !bytes.Equal(held, was) {
				t.Errorf("Read changed %v to %v", was, held)
			}
			clear(held)
			if ok && c != fullest(r) {
				t.Errorf("Read = %v; want %v", c, fullest(r))
			}
		}
	}
}

// P2: what is answered is new memory, its spare room too, and nothing that is written there is to be seen later.
func TestBytesIsNewMemory(t *testing.T) {
	for _, r := range table() {
		c := fullest(r)
		one, _ := Bytes(c)
		two, _ := Bytes(c)
		for i := range one[:cap(one)] {
			one[:cap(one)][i] = 0xAA
		}
		if !bytes.Equal(two, wanted(c)) {
			t.Errorf("two answers share: %v", two)
		}
		if three, ok := Bytes(c); !ok || !bytes.Equal(three, wanted(c)) {
			t.Errorf("Bytes(%v) = %v, %v", c, three, ok)
		}
	}
}
