package svc_test

import (
	"math"
	"slices"
	"testing"

	"nightjar/api"
	"nightjar/plan"
	"nightjar/svc"
)

// checkNew holds New of a layout, and Run of it, against whether the layout is right, and what is to be seen of a new
// service; the layout must stay as it is.
func checkNew(t *testing.T, c api.Cfg, right bool) {
	t.Helper()
	was := copyOf(c)
	s, err := svc.New(c)
	traces, runErr := svc.Run(c, nil)
	_, longErr := svc.Run(c, make([]byte, api.MaxBytes+1))
	if !slices.Equal(c.Tenants, was.Tenants) || !slices.Equal(c.Slots, was.Slots) {
		t.Fatalf("the layout is %v; was %v", c, was)
	}
	if !right {
		if s != nil || err != api.ErrConfig || len(traces) != 0 || runErr != api.ErrConfig || longErr != api.ErrConfig {
			t.Fatalf("New(%v) = %v, %d; Run = %v, %d; of too much %d", c, s, err, traces, runErr, longErr)
		}
		return
	}
	if s == nil || err != api.OK || len(traces) != len(c.Tenants) || runErr != api.OK || longErr != api.ErrLong {
		t.Fatalf("New(%v) = %v, %d; Run = %v, %d; of too much %d", c, s, err, traces, runErr, longErr)
	}
	if s.Now() != c.First || s.Tenants() != len(c.Tenants) {
		t.Fatalf("New(%v): Now = %d, Tenants = %d", c, s.Now(), s.Tenants())
	}
	for who, q := range c.Tenants {
		if got := s.Trace(who); len(got) != 0 || len(traces[who]) != 0 {
			t.Fatalf("New(%v): the trace of %d is %v; of Run %v", c, who, got, traces[who])
		}
		if got := s.Shot(who); !alikeShots(got, loneTenant(c, q).Shot()) || len(got.Devs) != q.Devs {
			t.Fatalf("New(%v): of %d is to be seen %v", c, who, got)
		}
	}
}

// P17.1: layouts that are right.
func TestLayouts(t *testing.T) {
	for _, c := range layouts() {
		checkNew(t, c, true)
	}
}

// bases are layouts of one, two, three and eight tenants, to be altered.
func bases() []api.Cfg { return []api.Cfg{single(), pair(0), triple(), eight(), greatest(), least()} }

// P17.1, P1: each number of each tenant's bounds at, below and above its own bounds, all others as they were.
func TestQuotas(t *testing.T) {
	fields := []struct {
		low, high int
		of        func(q *api.Quota) *int
	}{
		{1, 256, func(q *api.Quota) *int { return &q.Handles }},
		{0, 256, func(q *api.Quota) *int { return &q.Timers }},
		{0, 64, func(q *api.Quota) *int { return &q.Devs }},
		{1, 64, func(q *api.Quota) *int { return &q.Inbox }},
	}
	for _, base := range bases() {
		for who := range base.Tenants {
			for _, f := range fields {
				for _, n := range around(f.low, f.high) {
					c := copyOf(base)
					*f.of(&c.Tenants[who]) = n
					checkNew(t, c, f.low <= n && n <= f.high)
				}
			}
		}
	}
}

// around are numbers at, below and above bounds, some that are within them if they are cut to fewer bits, and the ends.
func around(low, high int) []int {
	return []int{math.MinInt, -1 << 32, -256, -1, 0, 1, low - 1, low, low + 1, high - 1, high, high + 1, high + 256, 1<<16 + low, 1<<32 + high, math.MaxInt}
}

// P17.1, P1: the budget and the generations at, below and above their bounds.
func TestBudgetAndGens(t *testing.T) {
	for _, base := range bases() {
		for _, n := range around(1, 16) {
			c := copyOf(base)
			c.Budget = n
			checkNew(t, c, 1 <= n && n <= 16)
		}
		for _, n := range around(1, 1<<24-1) {
			c := copyOf(base)
			c.Gens = n
			checkNew(t, c, 1 <= n && n <= 1<<24-1)
		}
		for _, first := range []uint64{0, 1, 4, 1 << 63, most - 1, most} {
			c := copyOf(base)
			c.First = first
			checkNew(t, c, true)
		}
	}
}

// P17.1, P1: slots and tenants that make no plan: none at all, too many, of nobody, of no ticks or too many, and a tenant
// without a slot.
func TestSlots(t *testing.T) {
	for _, base := range bases() {
		for _, slots := range slotsLike(base) {
			c := copyOf(base)
			c.Slots = slots
			_, err := plan.Of(slots, len(c.Tenants))
			checkNew(t, c, err == api.OK)
		}
	}
	wrong := map[string]func(c *api.Cfg){
		"no slot":          func(c *api.Cfg) { c.Slots = nil },
		"empty slots":      func(c *api.Cfg) { c.Slots = []api.Slot{} },
		"nobody's, below":  func(c *api.Cfg) { c.Slots[1].Owner = -1 },
		"nobody's, above":  func(c *api.Cfg) { c.Slots[1].Owner = len(c.Tenants) },
		"no tick":          func(c *api.Cfg) { c.Slots[1].Len = 0 },
		"fewer than none":  func(c *api.Cfg) { c.Slots[1].Len = -1 },
		"too many ticks":   func(c *api.Cfg) { c.Slots[1].Len = 1001 },
		"no slot of one":   func(c *api.Cfg) { c.Tenants = append(c.Tenants, c.Tenants[0]) },
		"no tenant":        func(c *api.Cfg) { c.Tenants = nil },
		"empty tenants":    func(c *api.Cfg) { c.Tenants = []api.Quota{} },
		"too few tenants":  func(c *api.Cfg) { c.Tenants = c.Tenants[:1] },
		"neither of these": func(c *api.Cfg) { *c = api.Cfg{Budget: 1, Gens: 1} },
		"nothing":          func(c *api.Cfg) { *c = api.Cfg{} },
	}
	for name, f := range wrong {
		for _, c := range []api.Cfg{pair(0), triple()} {
			f(&c)
			if _, err := svc.New(c); err != api.ErrConfig {
				t.Errorf("%s: %d", name, err)
			}
			checkNew(t, c, false)
		}
	}
}

// slotsLike are the slots of a layout, with one field of one of them altered, without one of them, and many more.
func slotsLike(c api.Cfg) [][]api.Slot {
	list := [][]api.Slot{c.Slots}
	for _, k := range []int{0, len(c.Slots) / 2, len(c.Slots) - 1} {
		for _, n := range around(0, len(c.Tenants)-1) {
			other := slices.Clone(c.Slots)
			other[k].Owner = n
			list = append(list, other)
		}
		for _, n := range around(1, 1000) {
			other := slices.Clone(c.Slots)
			other[k].Len = n
			list = append(list, other)
		}
		list = append(list, slices.Delete(slices.Clone(c.Slots), k, k+1))
	}
	for _, n := range []int{63, 64, 65, 200} {
		var many []api.Slot
		for len(many) < n {
			many = append(many, c.Slots...)
		}
		list = append(list, many[:n])
	}
	return list
}

// P17.1: up to eight tenants.
func TestTenants(t *testing.T) {
	for n := range 12 {
		c := api.Cfg{Budget: 1, Gens: 1}
		for who := range n {
			c.Tenants = append(c.Tenants, api.Quota{Handles: 1, Inbox: 1})
			c.Slots = append(c.Slots, api.Slot{Owner: who, Len: 1})
		}
		checkNew(t, c, 1 <= n && n <= 8)
	}
}

// Rules: a layout is neither changed, nor the memory behind its lists, nor kept.
func TestLayoutStays(t *testing.T) {
	for k, base := range bases() {
		list := script(base, k, 200)
		want := newBench(t, base)
		want.all(list...)
		c := copyOf(base)
		tenants, slots := len(c.Tenants), len(c.Slots)
		c.Tenants = append(c.Tenants, api.Quota{Handles: 7}, api.Quota{Handles: 8})
		c.Slots = append(c.Slots, api.Slot{Owner: 7}, api.Slot{Owner: 8})
		was := copyOf(c)
		c.Tenants, c.Slots = c.Tenants[:tenants], c.Slots[:slots]
		s := made(t, c)
		doAll(s, list[:100])
		svc.Run(c, nil)
		if !slices.Equal(c.Tenants[:tenants+2], was.Tenants) || !slices.Equal(c.Slots[:slots+2], was.Slots) {
			t.Fatalf("the layout is %v; was %v", c, was)
		}
		clear(c.Tenants[:tenants+2])
		clear(c.Slots[:slots+2])
		doAll(s, list[100:])
		if !look(s).same(look(want.s)) {
			t.Errorf("a layout that is written over turns the service of %v", base)
		}
	}
}

func doAll(s *svc.Service, list []api.Entry) {
	for _, e := range list {
		s.Do(e)
	}
}

// P17.1: each tenant has its own bounds, and no others: so many handles, timers, devices, notes, things that are told in
// a slot, and generations there are.
func TestBounds(t *testing.T) {
	for _, c := range []api.Cfg{pair(0), triple(), eight(), greatest(), least()} {
		for who, q := range c.Tenants {
			timers := count(t, c, who, func(k int) api.Entry { return ask(who, api.Timer) })
			if timers != min(q.Timers, q.Handles) {
				t.Errorf("%v: %d has %d timers", c, who, timers)
			}
			devs := count(t, c, who, func(k int) api.Entry { return ask(who, api.Open, uint64(k)) })
			if devs != min(q.Devs, q.Handles) {
				t.Errorf("%v: %d has %d devices", c, who, devs)
			}
			if q.Devs == 0 {
				continue
			}
			handles := count(t, c, who, func(k int) api.Entry {
				if k == 0 {
					return ask(who, api.Open)
				}
				return ask(who, api.Dup, h(0, 1, 15), 15)
			})
			if handles != q.Handles {
				t.Errorf("%v: %d has %d handles", c, who, handles)
			}
			notes(t, c, who)
		}
	}
}

// count is how many calls a tenant is answered until one is refused.
func count(t *testing.T, c api.Cfg, who int, of func(k int) api.Entry) int {
	t.Helper()
	s := made(t, c)
	for k := range 300 {
		s.Do(of(k))
		trace := s.Trace(who)
		if trace[len(trace)-1].Code != api.OK {
			return k
		}
	}
	return 300
}

// notes holds how many notes a tenant has, and how many generations a place.
func notes(t *testing.T, c api.Cfg, who int) {
	t.Helper()
	s := made(t, c)
	s.Do(ask(who, api.Open))
	for range 70 {
		s.Do(comes(who, 0, 1))
	}
	if got := len(s.Shot(who).Notes); got != c.Tenants[who].Inbox {
		t.Errorf("%v: %d has %d notes", c, who, got)
	}
	for gen := range min(c.Gens+1, 12) {
		s.Do(ask(who, api.Drop, h(0, uint64(gen+1), 15)))
		s.Do(ask(who, api.Open))
	}
	dead := 0
	if c.Gens < 12 {
		dead = 1
	}
	if got := s.Shot(who).Dead; got != dead {
		t.Errorf("%v: %d has %d places that are used up", c, who, got)
	}
}

// P17.1: in each slot no more is told than the budget, but so much.
func TestBudget(t *testing.T) {
	for budget := 1; budget <= 16; budget++ {
		c := pair(0)
		c.Budget = budget
		c.Tenants[1] = api.Quota{Handles: 40, Timers: 40, Inbox: 1}
		b := newBench(t, c)
		for k := range uint64(40) {
			b.do(ask(1, api.Timer))
			b.do(ask(1, api.Arm, h(k, 1, 15), k%3))
		}
		asked := len(b.s.Trace(1))
		for told := 0; told < 40; {
			b.all(tick(5))
			told = min(told+budget, 40)
			if got := len(b.s.Trace(1)) - asked; got != told {
				t.Fatalf("of the budget %d at %d were told %d; want %d", budget, b.s.Now(), got, told)
			}
		}
	}
}
