package svc_test

import (
	"slices"
	"testing"

	"nightjar/api"
	"nightjar/svc"
	"nightjar/wire"
)

// written is the bytes of those entries of a script that are right.
func written(t testing.TB, list []api.Entry) []byte {
	t.Helper()
	right := slices.DeleteFunc(slices.Clone(list), func(e api.Entry) bool { return !mayBe(e) })
	b, err := wire.Write(right)
	if err != api.OK {
		t.Fatalf("Write(%v): %d", right, err)
	}
	return b
}

// run is the traces of a script's bytes, which stay as they are.
func run(t testing.TB, c api.Cfg, b []byte) [][]api.Item {
	t.Helper()
	was := slices.Clone(b)
	traces, err := svc.Run(c, b)
	if err != api.OK {
		t.Fatalf("Run(%v, %.300v): %d", c, b, err)
	}
	if !slices.Equal(b, was) {
		t.Fatalf("Run(%v): the bytes are %.300v; were %.300v", c, b, was)
	}
	return traces
}

// P17.1: the traces of a script's bytes are those of its entries, done one by one.
func TestRun(t *testing.T) {
	for k, c := range layouts() {
		list := script(c, 10+k, 500)
		b := newBench(t, c)
		b.all(list...)
		if got := run(t, c, written(t, list)); !sameTraces(got, b.m.traces) {
			t.Fatalf("Run(%v, the bytes of %v) = %v; want %v", c, list, got, b.m.traces)
		}
	}
}

// P17.1: of no bytes, and of bytes that are no entries, each tenant has a trace, with nothing in it.
func TestRunOfNothing(t *testing.T) {
	wrong := []api.Entry{{Kind: 0, N: 101}, {Kind: 0, N: 0}, {Kind: 0, N: 256}}
	var b []byte
	for _, e := range wrong {
		b = append(b, 3, 0, byte(e.N), byte(e.N>>8))
	}
	b = append(b, 0, 0, 1, 9, 3, 9, 1, 0, 2, 0, 1, 4, 2, 0, 0, 8, 4, 2, 0, 0, 0, 5, 2, 0, 0, 1, 0)
	asked := written(t, []api.Entry{ask(0, api.Arm, 1, 2, 3)})
	asked[3] = 13
	b = append(b, asked...)
	b = append(b, 3, 0, 1)
	for _, c := range layouts() {
		want := make([][]api.Item, len(c.Tenants))
		for _, script := range [][]byte{nil, {}, b, make([]byte, 65536), {255}, {3, 0, 1}} {
			if got := run(t, c, script); !sameTraces(got, want) {
				t.Errorf("Run(%v, %.300v) = %v", c, script, got)
			}
		}
	}
}

// P17.1: what is no entry is passed over, as is what is for nobody.
func TestRunOfJunk(t *testing.T) {
	for k, c := range []api.Cfg{pair(0), triple(), eight(), pair(most - 30)} {
		list := script(c, 20+k, 300)
		m := newModel(c)
		var b []byte
		for at, x := range steps(k, 300) {
			if !mayBe(list[at]) {
				continue
			}
			m.do(list[at])
			b = append(b, written(t, list[at:at+1])...)
			switch x >> 60 {
			case 0:
				b = append(b, 0)
			case 1:
				b = append(b, 2, 7, byte(x>>20))
			case 2:
				b = append(b, 3, 0, 101, 0)
			case 3:
				b = append(b, 4, 2, byte(x>>20), byte(x>>28), 0)
			case 4:
				b = append(b, written(t, []api.Entry{ask(len(c.Tenants), api.Timer), comes(255, 0, 1)})...)
			}
		}
		b = append(b, written(t, []api.Entry{ask(0, api.Now)})[:27]...)
		if got := run(t, c, b); !sameTraces(got, m.traces) {
			t.Errorf("Run(%v, %v) = %v; want %v", c, b, got, m.traces)
		}
	}
}

// P17.1: the first 2048 entries are done, whatever stands between and behind them.
func TestRunOfMany(t *testing.T) {
	c := pair(0)
	for _, n := range []int{2047, 2048, 2049, 2180} {
		var b []byte
		for k := range n {
			// Those for nobody are entries too, what has the byte 9 alone is none.
			b = append(b, 1, 9)
			b = append(b, written(t, []api.Entry{ask(k%3, api.Now)})...)
		}
		want := make([][]api.Item, 2)
		for k := range min(n, 2048) {
			if k%3 < 2 {
				want[k%3] = append(want[k%3], answer(api.Now, 0, 0))
			}
		}
		if got := run(t, c, b); !sameTraces(got, want) {
			t.Errorf("of %d entries %d and %d are done", n, len(got[0]), len(got[1]))
		}
	}
}

// P17.1, P1: which error is answered: of a layout that isn't right, of too many bytes, of both.
func TestRunErrors(t *testing.T) {
	tooMany := make([]byte, 65537)
	tooMany[0], tooMany[2] = 3, 1
	wrong := pair(0)
	wrong.Budget = 0
	cases := []struct {
		c    api.Cfg
		b    []byte
		want api.Errno
	}{
		{wrong, nil, api.ErrConfig},
		{wrong, tooMany, api.ErrConfig},
		{api.Cfg{}, tooMany, api.ErrConfig},
		{pair(0), tooMany, api.ErrLong},
		{pair(0), make([]byte, 1<<20), api.ErrLong},
		{pair(0), tooMany[:65536], api.OK},
	}
	for k, x := range cases {
		got, err := svc.Run(x.c, x.b)
		if err != x.want || err != api.OK && len(got) != 0 || err == api.OK && len(got) != 2 {
			t.Errorf("case %d: %v, %d", k, got, err)
		}
	}
}

// P17.1: of the most bytes, all are read.
func TestRunToTheEnd(t *testing.T) {
	last := written(t, []api.Entry{ask(1, api.Now)})
	b := make([]byte, 65536-len(last))
	for k := 0; k+4 < len(b); k += 4 {
		copy(b[k:], []byte{3, 0, 101, 0})
	}
	// The last four bytes ahead of the last entry are counts of nothing.
	b = append(b, last...)
	if got := run(t, pair(0), b); !sameTraces(got, [][]api.Item{nil, {answer(api.Now, 0, 0)}}) {
		t.Errorf("Run = %v", got)
	}
}

// Rules: the traces of a run share nothing with one another, nor with those of another one.
func TestRunCopies(t *testing.T) {
	c := triple()
	b := written(t, script(c, 3, 400))
	want, got := run(t, c, b), run(t, c, b)
	for who := range got {
		for other := range got {
			if other == who {
				continue
			}
			was := slices.Clone(got[other])
			clear(got[who][:cap(got[who])])
			if !slices.Equal(got[other], was) {
				t.Errorf("the traces of %d and %d share memory", who, other)
			}
		}
	}
	if again := run(t, c, b); !sameTraces(again, want) {
		t.Errorf("Run = %v; want %v", again, want)
	}
}
