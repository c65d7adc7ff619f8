package gate

import (
	"math"
	"testing"

	"nightjar/api"
)

// set is which of In, Out and Hup, in this order.
type set [3]bool

func setOf(mask int) set {
	var s set
	for k := range s {
		s[k] = mask>>k&1 == 1
	}
	return s
}

func (s set) mask() int {
	mask := 0
	for k, is := range s {
		if is {
			mask += 1 << k
		}
	}
	return mask
}

func (s set) and(other set) set {
	for k := range s {
		s[k] = s[k] && other[k]
	}
	return s
}

func (s set) or(other set) set {
	for k := range s {
		s[k] = s[k] || other[k]
	}
	return s
}

func (s set) without(other set) set {
	for k := range s {
		s[k] = s[k] && !other[k]
	}
	return s
}

// watcher is who watches, for what, how, and what is to be told to it.
type watcher struct {
	handle uint64
	want   set
	mode   int
	told   set
}

// model is a gate as the document's words have it.
type model struct {
	open        bool
	ready, late set
	watched     bool
	by          watcher
}

func (m *model) look() Look {
	return Look{
		Open:   m.open,
		Ready:  m.ready.mask(),
		Late:   m.late.mask(),
		Handle: m.by.handle,
		Want:   m.by.want.mask(),
		Mode:   m.by.mode,
		Told:   m.by.told.mask(),
	}
}

func (m *model) doOpen() bool {
	if m.open {
		return false
	}
	*m = model{open: true}
	return true
}

func (m *model) doClose() bool {
	if !m.open {
		return false
	}
	*m = model{}
	return true
}

func (m *model) keep(mask int) {
	if m.open {
		m.late = m.late.or(setOf(mask))
	}
}

func (m *model) meet(mask int) {
	if !m.open {
		return
	}
	m.ready = m.ready.or(setOf(mask))
	if m.watched {
		m.by.told = m.by.told.or(setOf(mask).and(m.by.want))
	}
}

func (m *model) flush() {
	late := m.late.mask()
	m.late = set{}
	m.meet(late)
}

func (m *model) watch(handle uint64, want, mode int) bool {
	if !m.open || want < 1 || want > 7 || mode < 0 || mode > 2 {
		return false
	}
	m.watched = true
	m.by = watcher{handle: handle, want: setOf(want), mode: mode, told: setOf(want).and(m.ready)}
	return true
}

func (m *model) unwatch() bool {
	was := m.watched
	m.watched, m.by = false, watcher{}
	return was
}

func (m *model) ack(mask int) int {
	was := m.ready.and(setOf(mask))
	m.ready = m.ready.without(was)
	return was.mask()
}

func (m *model) tell() (uint64, int) {
	if !m.watched {
		return 0, 0
	}
	if m.by.mode == 0 {
		m.by.told = m.ready.and(m.by.want)
	}
	by := m.by
	if by.told == (set{}) {
		return 0, 0
	}
	if by.mode == 1 {
		m.by.told = set{}
	}
	if by.mode == 2 {
		m.unwatch()
	}
	return by.handle, by.told.mask()
}

// pair is a gate, and the model of which all its answers are asked; both are values, so that one pair is copied to
// another one.
type pair struct {
	g Gate
	m model
}

func (p *pair) open(t *testing.T) {
	t.Helper()
	was := p.m
	want := p.m.doOpen()
	if got := p.g.Open(); got != want {
		t.Fatalf("of %v: Open = %v; want %v", was.look(), got, want)
	}
}

func (p *pair) close(t *testing.T) {
	t.Helper()
	was := p.m
	want := p.m.doClose()
	if got := p.g.Close(); got != want {
		t.Fatalf("of %v: Close = %v; want %v", was.look(), got, want)
	}
}

func (p *pair) keep(mask int) {
	p.m.keep(mask)
	p.g.Keep(mask)
}

func (p *pair) meet(mask int) {
	p.m.meet(mask)
	p.g.Meet(mask)
}

func (p *pair) flush() {
	p.m.flush()
	p.g.Flush()
}

func (p *pair) watch(t *testing.T, handle uint64, want, mode int) {
	t.Helper()
	was := p.m
	is := p.m.watch(handle, want, mode)
	if got := p.g.Watch(handle, want, mode); got != is {
		t.Fatalf("of %v: Watch(%d, %d, %d) = %v; want %v", was.look(), handle, want, mode, got, is)
	}
}

func (p *pair) unwatch(t *testing.T) {
	t.Helper()
	was := p.m
	want := p.m.unwatch()
	if got := p.g.Unwatch(); got != want {
		t.Fatalf("of %v: Unwatch = %v; want %v", was.look(), got, want)
	}
}

func (p *pair) ack(t *testing.T, mask int) {
	t.Helper()
	was := p.m
	want := p.m.ack(mask)
	if got := p.g.Ack(mask); got != want {
		t.Fatalf("of %v: Ack(%d) = %d; want %d", was.look(), mask, got, want)
	}
}

func (p *pair) tell(t *testing.T) {
	t.Helper()
	was := p.m
	handle, mask := p.m.tell()
	if h, got := p.g.Tell(); h != handle || got != mask {
		t.Fatalf("of %v: Tell = %d, %d; want %d, %d", was.look(), h, got, handle, mask)
	}
}

// same holds all that is to be seen of the gate against the model.
func (p *pair) same(t *testing.T) {
	t.Helper()
	if p.g.Look() != p.m.look() {
		t.Fatalf("Look = %v; want %v", p.g.Look(), p.m.look())
	}
	if p.g.Wants() != (p.m.by.told != set{}) {
		t.Fatalf("of %v: Wants = %v", p.m.look(), p.g.Wants())
	}
}

// masks are all of Any, and such with bits outside of it.
func masks() []int {
	return []int{0, 1, 2, 3, 4, 5, 6, 7, 8, 9, 15, 16, 255, 1 << 32, 1<<32 + 2, 1 << 62, math.MaxInt, math.MaxInt - 1,
		-1, -2, -3, -5, -8, -9, math.MinInt, math.MinInt + 4}
}

// wrongWants and wrongModes are such that there are none of.
func wrongWants() []int {
	return []int{math.MinInt, math.MinInt + 1, -8, -7, -1, 0, 8, 9, 15, 16, 1 << 32, 1<<32 + 1, math.MaxInt}
}

func wrongModes() []int {
	return []int{math.MinInt, math.MinInt + 1, -3, -1, 3, 4, 1 << 32, 1<<32 + 1, math.MaxInt}
}

// calls are all calls, of every kind of arguments.
func calls(t *testing.T) []func(p *pair) {
	list := []func(p *pair){
		func(p *pair) { p.open(t) },
		func(p *pair) { p.close(t) },
		func(p *pair) { p.flush() },
		func(p *pair) { p.unwatch(t) },
		func(p *pair) { p.tell(t) },
	}
	for _, mask := range masks() {
		list = append(list,
			func(p *pair) { p.keep(mask) },
			func(p *pair) { p.meet(mask) },
			func(p *pair) { p.ack(t, mask) })
	}
	for _, handle := range []uint64{0, math.MaxUint64} {
		for want := 1; want <= 7; want++ {
			for mode := range 3 {
				list = append(list, func(p *pair) { p.watch(t, handle, want, mode) })
			}
		}
	}
	for _, want := range wrongWants() {
		list = append(list, func(p *pair) { p.watch(t, 5, want, api.Edge) })
	}
	for _, mode := range wrongModes() {
		list = append(list, func(p *pair) { p.watch(t, 5, 3, mode) })
	}
	return list
}

// steps is a fixed run of numbers, to make calls of.
func steps(count int) []uint64 {
	list := make([]uint64, 0, count)
	x := uint64(0x9E3779B97F4A7C15)
	for range count {
		x ^= x << 13
		x ^= x >> 7
		x ^= x << 17
		list = append(list, x>>3)
	}
	return list
}

// P11.1: the document's own example.
func TestExample(t *testing.T) {
	var g Gate
	g.Open()
	g.Watch(9, api.In|api.Out, api.Level)
	g.Meet(api.In | api.Hup)
	if h, mask := g.Tell(); h != 9 || mask != api.In {
		t.Errorf("Tell = %d, %d", h, mask)
	}
	g.Ack(api.Any)
	if h, mask := g.Tell(); h != 0 || mask != 0 {
		t.Errorf("Tell = %d, %d", h, mask)
	}
}

// P11.1, P4: every call, of every kind of arguments, in every state that calls lead to; so in every order of calls.
func TestEveryCallInEveryState(t *testing.T) {
	list := calls(t)
	seen := map[pair]int{{}: 0}
	for work := []pair{{}}; len(work) > 0; work = work[1:] {
		for _, call := range list {
			next := work[0]
			call(&next)
			next.same(t)
			if _, ok := seen[next]; !ok {
				seen[next] = len(seen)
				work = append(work, next)
			}
		}
	}
	// A bit is wanted or not, ready or not, to be told or not, but not told if it isn't wanted: 6 ways; by its level, and
	// once, none that is wanted and ready isn't to be told: 5 ways; 2 of them are of those that aren't wanted.
	const late, handles, unwanted = 8, 2, 2 * 2 * 2
	const edge, levelOrOnce = 6*6*6 - unwanted, 5*5*5 - unwanted
	if want := 1 + late*unwanted + late*handles*(edge+2*levelOrOnce); len(seen) != want {
		t.Errorf("there are %d states; want %d", len(seen), want)
	}
}

// P11.1: a gate that isn't open, at first or again: nothing comes, nothing is watched, everything is 0.
func TestNotOpen(t *testing.T) {
	for closed := range 2 {
		var p pair
		if closed == 1 {
			p.open(t)
			p.meet(7)
			p.keep(7)
			p.watch(t, 9, 7, api.Edge)
			p.close(t)
		}
		for _, mask := range masks() {
			p.keep(mask)
			p.meet(mask)
			p.flush()
			if p.g.Ack(mask) != 0 || p.g.Watch(uint64(mask), 7, api.Level) || p.g.Watch(0, 1, api.Once) {
				t.Errorf("%d: it is as if it were open", mask)
			}
			if h, told := p.g.Tell(); h != 0 || told != 0 || p.g.Wants() || p.g.Unwatch() || p.g.Close() {
				t.Errorf("%d: it is as if it were open", mask)
			}
			if p.g.Look() != (Look{}) || p.g != (Gate{}) {
				t.Errorf("%d: Look = %v", mask, p.g.Look())
			}
		}
		p.open(t)
		p.same(t)
		if p.g.Look() != (Look{Open: true}) {
			t.Errorf("opened: Look = %v", p.g.Look())
		}
	}
}

// P11.1, P4: one that is open isn't opened again, and stays as it is; one that was closed begins anew.
func TestOpenAgain(t *testing.T) {
	for mode := range 3 {
		var g Gate
		g.Open()
		g.Meet(5)
		g.Keep(3)
		g.Watch(8, 6, mode)
		want := Look{Open: true, Ready: 5, Late: 3, Handle: 8, Want: 6, Mode: mode, Told: 4}
		for range 2 {
			if g.Open() || g.Look() != want {
				t.Errorf("opened again: Look = %v; want %v", g.Look(), want)
			}
		}
		if !g.Close() || g != (Gate{}) || g.Close() || !g.Open() || g.Look() != (Look{Open: true}) {
			t.Errorf("closed, and opened: Look = %v", g.Look())
		}
		g.Flush()
		if h, mask := g.Tell(); h != 0 || mask != 0 || g.Look() != (Look{Open: true}) {
			t.Errorf("there is something left: %d, %d, %v", h, mask, g.Look())
		}
	}
}

// P11.1: of a mask that comes the bits of Any alone count; what comes is added to what came.
func TestMasks(t *testing.T) {
	for _, first := range masks() {
		for _, second := range masks() {
			var g Gate
			g.Open()
			g.Watch(4, 6, api.Edge)
			g.Meet(first)
			g.Keep(second)
			want := Look{Open: true, Ready: first & 7, Late: second & 7, Handle: 4, Want: 6, Mode: api.Edge, Told: first & 6}
			if g.Look() != want {
				t.Fatalf("%d, %d: Look = %v; want %v", first, second, g.Look(), want)
			}
			g.Meet(second)
			g.Keep(first)
			both := (first | second) & 7
			want.Ready, want.Late, want.Told = both, both, both&6
			if g.Look() != want {
				t.Fatalf("%d, %d, and again: Look = %v; want %v", first, second, g.Look(), want)
			}
		}
	}
}

// P11.1: what came while there was no room isn't ready, nor told, till it is met; then it is as if it came then.
func TestLate(t *testing.T) {
	for kept := range 8 {
		for want := 1; want <= 7; want++ {
			for mode := range 3 {
				var g Gate
				g.Open()
				g.Watch(3, want, mode)
				g.Keep(kept)
				if h, mask := g.Tell(); h != 0 || mask != 0 || g.Wants() || g.Ack(7) != 0 {
					t.Fatalf("%d is told ahead of its time: %d, %d", kept, h, mask)
				}
				if look := g.Look(); look.Late != kept || look.Ready != 0 || look.Told != 0 {
					t.Fatalf("%d kept: Look = %v", kept, look)
				}
				g.Flush()
				met := Look{Open: true, Ready: kept, Handle: 3, Want: want, Mode: mode, Told: kept & want}
				if g.Look() != met || g.Wants() != (kept&want != 0) {
					t.Fatalf("%d met: Look = %v; want %v", kept, g.Look(), met)
				}
				g.Ack(7)
				ready := g.Look()
				g.Flush()
				if g.Look() != ready {
					t.Fatalf("%d is met twice: Look = %v", kept, g.Look())
				}
			}
		}
	}
}

// P11.1: Watch and Unwatch leave what was kept; what nobody watches is ready all the same.
func TestLateWhileUnwatched(t *testing.T) {
	var g Gate
	g.Open()
	g.Keep(5)
	g.Watch(1, 7, api.Once)
	g.Unwatch()
	if g.Look() != (Look{Open: true, Late: 5}) {
		t.Errorf("Look = %v", g.Look())
	}
	g.Flush()
	if g.Look() != (Look{Open: true, Ready: 5}) || g.Wants() {
		t.Errorf("Look = %v", g.Look())
	}
	g.Watch(2, 6, api.Edge)
	if h, mask := g.Tell(); h != 2 || mask != 4 {
		t.Errorf("Tell = %d, %d", h, mask)
	}
}

// watched is an open gate in which everything is something.
func watched(mode int) pair {
	var p pair
	p.m.doOpen()
	p.g.Open()
	p.meet(5)
	p.keep(2)
	p.m.watch(9, 3, mode)
	p.g.Watch(9, 3, mode)
	return p
}

// P11.1, P4: a watch for what isn't from 1 to 7, or in a mode that isn't from 0 to 2, is none, and turns nothing.
func TestWrongWatch(t *testing.T) {
	for mode := range 3 {
		p := watched(mode)
		for _, want := range wrongWants() {
			for _, way := range append(wrongModes(), 0, 1, 2) {
				p.watch(t, 1, want, way)
				p.same(t)
			}
		}
		for want := -1; want <= 8; want++ {
			for _, way := range wrongModes() {
				p.watch(t, 1, want, way)
				p.same(t)
			}
		}
		if want := watched(mode); p.g != want.g {
			t.Errorf("Look = %v; want %v", p.g.Look(), want.g.Look())
		}
	}
}

// P11.1: a watch takes the place of another one, of all of it: what is ready of its own want is to be told, nothing else.
func TestWatchInPlaceOfAnother(t *testing.T) {
	for was := range 3 {
		for mode := range 3 {
			for want := 1; want <= 7; want++ {
				for _, handle := range []uint64{0, 1, 9, math.MaxUint64} {
					p := watched(was)
					p.meet(2)
					p.ack(t, 1)
					p.watch(t, handle, want, mode)
					ready := Look{Open: true, Ready: 6, Late: 2, Handle: handle, Want: want, Mode: mode, Told: want & 6}
					if p.g.Look() != ready {
						t.Fatalf("Look = %v; want %v", p.g.Look(), ready)
					}
					p.tell(t)
					p.same(t)
				}
			}
		}
	}
}

// P11.1: behind Unwatch nobody watches; what is ready stays, and what comes is ready.
func TestUnwatch(t *testing.T) {
	for mode := range 3 {
		p := watched(mode)
		if !p.g.Unwatch() || p.g.Look() != (Look{Open: true, Ready: 5, Late: 2}) || p.g.Wants() {
			t.Errorf("Look = %v", p.g.Look())
		}
		if p.g.Unwatch() {
			t.Error("Unwatch of one that nobody watches")
		}
		p.g.Meet(2)
		if h, mask := p.g.Tell(); h != 0 || mask != 0 || p.g.Look() != (Look{Open: true, Ready: 7, Late: 2}) {
			t.Errorf("Tell = %d, %d, Look = %v", h, mask, p.g.Look())
		}
	}
}

// P11.1: one that is watched by the handle 0 is watched.
func TestHandleZero(t *testing.T) {
	for mode := range 3 {
		var g Gate
		g.Open()
		g.Watch(0, 1, mode)
		g.Meet(1)
		if h, mask := g.Tell(); h != 0 || mask != 1 {
			t.Errorf("mode %d: Tell = %d, %d", mode, h, mask)
		}
		if g.Unwatch() != (mode != api.Once) {
			t.Errorf("mode %d: Unwatch", mode)
		}
	}
}

// P11.1: Ack tells what of a mask was ready, which then isn't; what is to be told stays, and what was kept.
func TestAck(t *testing.T) {
	for ready := range 8 {
		for _, mask := range masks() {
			for mode := range 3 {
				var g Gate
				g.Open()
				g.Watch(6, 7, mode)
				g.Meet(ready)
				g.Keep(3)
				if was := g.Ack(mask); was != ready&mask {
					t.Fatalf("of %d: Ack(%d) = %d", ready, mask, was)
				}
				want := Look{Open: true, Ready: ready & (7 ^ mask&7), Late: 3, Handle: 6, Want: 7, Mode: mode, Told: ready}
				if g.Look() != want || g.Wants() != (ready != 0) {
					t.Fatalf("of %d: behind Ack(%d) Look = %v; want %v", ready, mask, g.Look(), want)
				}
				if g.Ack(mask) != 0 || g.Look() != want {
					t.Fatalf("of %d: Ack(%d) twice", ready, mask)
				}
			}
		}
	}
}

// P11.1: where nothing is to be told, 0 and 0, and all stays as it is; a watch once stays till there is something.
func TestTellNothing(t *testing.T) {
	for mode := range 3 {
		for want := 1; want <= 7; want++ {
			var g Gate
			g.Open()
			g.Meet(7 &^ want)
			g.Watch(12, want, mode)
			was := g.Look()
			for range 3 {
				if h, mask := g.Tell(); h != 0 || mask != 0 || g.Wants() || g.Look() != was {
					t.Fatalf("Tell = %d, %d, Look = %v; want %v", h, mask, g.Look(), was)
				}
			}
			g.Meet(7)
			if h, mask := g.Tell(); h != 12 || mask != want {
				t.Fatalf("Tell = %d, %d", h, mask)
			}
		}
	}
}

// P11.1: by its level, what was acknowledged since it was to be told isn't told, and nothing is to be told then.
func TestLevelOfWhatIsReadyNoMore(t *testing.T) {
	var g Gate
	g.Open()
	g.Watch(2, 7, api.Level)
	g.Meet(3)
	g.Ack(1)
	if !g.Wants() || g.Look().Told != 3 {
		t.Errorf("Look = %v", g.Look())
	}
	if h, mask := g.Tell(); h != 2 || mask != 2 || g.Look().Told != 2 {
		t.Errorf("Tell = %d, %d", h, mask)
	}
	g.Ack(2)
	if !g.Wants() {
		t.Error("Wants")
	}
	if h, mask := g.Tell(); h != 0 || mask != 0 || g.Wants() || g.Look() != (Look{Open: true, Handle: 2, Want: 7}) {
		t.Errorf("Tell = %d, %d, Look = %v", h, mask, g.Look())
	}
}

// P11.1: by its edges, and once, what came is told, acknowledged or not.
func TestToldThoughReadyNoMore(t *testing.T) {
	for _, mode := range []int{api.Edge, api.Once} {
		var g Gate
		g.Open()
		g.Watch(2, 7, mode)
		g.Meet(3)
		g.Ack(7)
		if h, mask := g.Tell(); h != 2 || mask != 3 || g.Wants() {
			t.Errorf("mode %d: Tell = %d, %d", mode, h, mask)
		}
	}
}

// P11.2: by its level a gate tells what is ready as long as it is.
func TestLevel(t *testing.T) {
	for want := 1; want <= 7; want++ {
		var g Gate
		g.Open()
		g.Watch(3, want, api.Level)
		ready := 0
		for _, step := range steps(400) {
			switch mask := int(step >> 10 % 8); step % 6 {
			case 0:
				g.Meet(mask)
				ready |= mask
			case 1:
				g.Ack(mask)
				ready &^= mask
			default:
				handle := uint64(3)
				if ready&want == 0 {
					handle = 0
				}
				if h, told := g.Tell(); h != handle || told != ready&want || g.Wants() != (told != 0) {
					t.Fatalf("of %d, for %d: Tell = %d, %d", ready, want, h, told)
				}
			}
		}
	}
}

// P11.2: by its edges a gate tells once what came, whether it is ready still or not.
func TestEdge(t *testing.T) {
	for want := 1; want <= 7; want++ {
		for first := range 8 {
			var g Gate
			g.Open()
			g.Meet(first)
			g.Watch(3, want, api.Edge)
			came := first & want
			for _, step := range steps(200) {
				switch mask := int(step >> 10 % 8); step % 6 {
				case 0:
					g.Meet(mask)
					came |= mask & want
				case 1:
					g.Ack(mask)
				default:
					if _, told := g.Tell(); told != came {
						t.Fatalf("for %d: Tell = %d; want %d", want, told, came)
					}
					came = 0
				}
			}
		}
	}
}

// P11.2: once a gate tells only once what came first, till it is watched anew.
func TestOnce(t *testing.T) {
	for want := 1; want <= 7; want++ {
		var g Gate
		g.Open()
		for again := range 3 {
			g.Ack(7)
			g.Watch(3, want, api.Once)
			told, times := 0, 0
			for _, step := range steps(60) {
				g.Meet(int(step>>10%8) | 1<<(step>>20%3))
				if h, mask := g.Tell(); mask != 0 {
					if h != 3 || mask&^want != 0 {
						t.Fatalf("for %d: Tell = %d, %d", want, h, mask)
					}
					told, times = mask, times+1
				}
			}
			if told == 0 || times != 1 || g.Wants() || g.Unwatch() || g.Look() != (Look{Open: true, Ready: 7}) {
				t.Fatalf("for %d, watch %d: told %d times, Look = %v", want, again, times, g.Look())
			}
		}
	}
}

// P11.1, P2: gates are apart, and long mixed orders of calls.
func TestMixedOrder(t *testing.T) {
	list := calls(t)
	var pairs [3]pair
	for i, step := range steps(60000) {
		p := &pairs[step>>40%3]
		if step>>50%4 == 0 {
			p.open(t)
		}
		if call := step % uint64(len(list)); call != 1 || step>>45%8 == 0 {
			list[call](p)
		}
		p.same(t)
		if i%10 == 0 {
			for k := range pairs {
				pairs[k].same(t)
			}
		}
	}
}

// P11.1: a gate is a value: a copy of it goes on from where it is, without it.
func TestCopy(t *testing.T) {
	p := watched(api.Edge)
	other := p
	other.meet(7)
	other.tell(t)
	other.close(t)
	p.same(t)
	other.same(t)
}
