package svc_test

import (
	"fmt"
	"slices"
	"sync"
	"testing"

	"nightjar/api"
)

// sees is what a tenant sees of a script: all ticks, and what is its own; misses is all else.
func sees(list []api.Entry, who int) []api.Entry {
	var own []api.Entry
	for _, e := range list {
		if e.Kind == 0 || e.Who == who {
			own = append(own, e)
		}
	}
	return own
}

func misses(list []api.Entry, who int) []api.Entry {
	var others []api.Entry
	for _, e := range list {
		if e.Kind != 0 && e.Who != who {
			others = append(others, e)
		}
	}
	return others
}

// P17.1, P3: behind each entry, a tenant's trace, and all that is to be seen of it, is that of a service that runs what it
// sees of the script alone.
func TestAlone(t *testing.T) {
	for k, c := range layouts() {
		every := 1
		if c.Tenants[0].Handles > 100 {
			every = 25
		}
		for seed := range 3 {
			list := script(c, 100*k+seed, 400)
			for who := range c.Tenants {
				full, lone := made(t, c), made(t, c)
				for at, e := range list {
					full.Do(e)
					if e.Kind == 0 || e.Who == who {
						lone.Do(e)
					}
					if at%every != 0 && at < len(list)-1 {
						continue
					}
					if !slices.Equal(full.Trace(who), lone.Trace(who)) || !alikeShots(full.Shot(who), lone.Shot(who)) {
						t.Fatalf("of %v, behind %v, of %d: %v, %v; alone: %v, %v", c, list[:at+1], who, full.Trace(who), full.Shot(who), lone.Trace(who), lone.Shot(who))
					}
				}
			}
		}
	}
}

// The mixed scripts are worth something: alarms and signals come, and each error of a call.
func TestScriptsTell(t *testing.T) {
	got := map[string]int{}
	for k, c := range layouts() {
		for seed := range 3 {
			s := made(t, c)
			doAll(s, script(c, 100*k+seed, 400))
			for who := range c.Tenants {
				for _, i := range s.Trace(who) {
					got[fmt.Sprint(i.Kind, i.Code)]++
				}
			}
		}
	}
	for _, what := range []string{"0 0", "0 2", "0 3", "0 4", "0 5", "0 6", "0 7", "0 8", "0 9", "1 0", "2 0"} {
		if got[what] < 20 {
			t.Errorf("of items of the kind and code %s there are %d", what, got[what])
		}
	}
}

// storm is what others do to somebody: they fill all that they have, call by the handles that the other one has, and by
// others like these, and let come of their devices, and of those that they haven't, what can come.
func storm(c api.Cfg, who int, handles []uint64) []api.Entry {
	var list []api.Entry
	for other, q := range c.Tenants {
		if other == who {
			continue
		}
		for dev := range q.Devs + 1 {
			list = append(list, ask(other, api.Open, uint64(dev)), comes(other, dev, 7), comes(other, dev, 1))
		}
		for range q.Timers + 1 {
			list = append(list, ask(other, api.Timer))
		}
		for _, handle := range handles {
			list = append(list,
				ask(other, api.Dup, handle, 15), ask(other, api.Arm, handle, 1, 1), ask(other, api.When, handle),
				ask(other, api.Watch, handle, 7, 0), ask(other, api.Ack, handle, 7), ask(other, api.Stop, handle),
				ask(other, api.Unwatch, handle), ask(other, api.Arm, handle, 0, 1), ask(other, api.Drop, handle))
		}
	}
	return list
}

// P3, P4: whatever others do, and wherever between what a tenant does, its trace, and all that is to be seen of it, is the
// same: nobody can tell whether somebody else is there.
func TestWhateverOthersDo(t *testing.T) {
	for k, c := range []api.Cfg{pair(0), triple(), eight(), least(), pair(most - 60)} {
		for who := range c.Tenants {
			own := sees(script(c, 200+k, 300), who)
			lone := made(t, c)
			doAll(lone, own)
			handles := append(givenOf(lone.Trace(who)), h(0, 1, 15), h(1, 1, 15), h(2, 1, 15))
			slices.Sort(handles)
			handles = slices.Compact(handles)
			for seed, others := range [][]api.Entry{storm(c, who, handles), misses(script(c, 300+k, 900), who)} {
				full := made(t, c)
				rest := own
				for at, x := range steps(seed, len(others)) {
					full.Do(others[at])
					for ; len(rest) > 0 && x%5 == 0; x /= 5 {
						full.Do(rest[0])
						rest = rest[1:]
					}
				}
				doAll(full, rest)
				if !slices.Equal(full.Trace(who), lone.Trace(who)) || !alikeShots(full.Shot(who), lone.Shot(who)) {
					t.Fatalf("of %v, of %d: %v, %v; alone: %v, %v", c, who, full.Trace(who), full.Shot(who), lone.Trace(who), lone.Shot(who))
				}
			}
		}
	}
}

// aloneIn is the layout in which all slots of others are those of one, who has hardly anything; the tenant itself is 0.
func aloneIn(c api.Cfg, who int) api.Cfg {
	out := c
	out.Tenants, out.Slots = []api.Quota{c.Tenants[who]}, nil
	if len(c.Tenants) > 1 {
		out.Tenants = append(out.Tenants, api.Quota{Handles: 1, Inbox: 1})
	}
	for _, slot := range c.Slots {
		owner := 1
		if slot.Owner == who {
			owner = 0
		}
		out.Slots = append(out.Slots, api.Slot{Owner: owner, Len: slot.Len})
	}
	return out
}

// P3, P17.1: it makes no difference either how many others there are, what they may have, or which number one has.
func TestWhoeverOthersAre(t *testing.T) {
	for k, c := range layouts() {
		list := script(c, 400+k, 400)
		full := made(t, c)
		doAll(full, list)
		for who := range c.Tenants {
			lone := made(t, aloneIn(c, who))
			for _, e := range sees(list, who) {
				if e.Kind != 0 {
					e.Who = 0
				}
				lone.Do(e)
			}
			if !slices.Equal(full.Trace(who), lone.Trace(0)) || !alikeShots(full.Shot(who), lone.Shot(0)) {
				t.Fatalf("of %v, of %d: %v, %v; alone: %v, %v", c, who, full.Trace(who), full.Shot(who), lone.Trace(0), lone.Shot(0))
			}
		}
	}
}

// P17.1: services have nothing to do with one another, in whichever order what they do is woven.
func TestServicesApart(t *testing.T) {
	for k, c := range layouts() {
		other := layouts()[(k+1)%len(layouts())]
		a, b, same := newBench(t, c), newBench(t, other), newBench(t, c)
		lists := [][]api.Entry{script(c, 500+k, 250), script(other, 600+k, 250), script(c, 700+k, 250)}
		for at := range 250 {
			a.do(lists[0][at])
			b.do(lists[1][at])
			same.do(lists[2][at])
			if at%50 == 49 {
				a.same()
				b.same()
				same.same()
			}
		}
	}
}

// P2: services that run at once answer as those that run one behind the other.
func TestServicesAtOnce(t *testing.T) {
	c := triple()
	var lists [][]api.Entry
	var want []seen
	for k := range 8 {
		lists = append(lists, script(c, 800+k%4, 400))
		s := made(t, c)
		doAll(s, lists[k])
		want = append(want, look(s))
	}
	got := make([]seen, len(lists))
	var all sync.WaitGroup
	for k, list := range lists {
		s := made(t, c)
		all.Go(func() {
			doAll(s, list)
			got[k] = look(s)
		})
	}
	all.Wait()
	for k := range lists {
		if !got[k].same(want[k]) {
			t.Errorf("behind %v: %v; want %v", lists[k], got[k], want[k])
		}
	}
}

// P2: the same once more is answered the same.
func TestSameAgain(t *testing.T) {
	for k, c := range layouts() {
		list := script(c, 900+k, 300)
		one, other := made(t, c), made(t, c)
		for _, e := range list {
			if one.Do(e) != other.Do(e) {
				t.Fatalf("Do(%v) isn't answered as before", e)
			}
		}
		if !look(one).same(look(other)) {
			t.Errorf("behind %v: %v, and %v", list, look(one), look(other))
		}
	}
}

// P17.1: a script in two parts is as the whole, wherever it is cut: behind the first part there are the first items of
// all traces, and the second one brings the others.
func TestTwoParts(t *testing.T) {
	for k, c := range []api.Cfg{single(), pair(0), triple(), eight(), pair(most - 40)} {
		list := slices.DeleteFunc(script(c, 1000+k, 160), func(e api.Entry) bool { return !mayBe(e) })
		whole := made(t, c)
		doAll(whole, list)
		want := look(whole)
		for cut := range len(list) + 1 {
			s := made(t, c)
			doAll(s, list[:cut])
			first := look(s)
			if got := run(t, c, written(t, list[:cut])); !sameTraces(got, first.traces) {
				t.Fatalf("Run of %v = %v; want %v", list[:cut], got, first.traces)
			}
			for who, trace := range first.traces {
				if !slices.Equal(want.traces[who][:len(trace)], trace) {
					t.Fatalf("behind %v the trace of %d is %v; behind all it is %v", list[:cut], who, trace, want.traces[who])
				}
			}
			doAll(s, list[cut:])
			if !look(s).same(want) {
				t.Fatalf("behind %v, and then %v: %v; want %v", list[:cut], list[cut:], look(s), want)
			}
		}
	}
}

// P17.1: ticks in two entries, or in many, are those in one.
func TestTicksInParts(t *testing.T) {
	for k, c := range layouts() {
		list := script(c, 1100+k, 300)
		one, other := made(t, c), made(t, c)
		for _, e := range list {
			one.Do(e)
			if e.Kind != 0 || !mayBe(e) {
				other.Do(e)
				continue
			}
			for range e.N {
				other.Do(tick(1))
			}
		}
		if !look(one).same(look(other)) {
			t.Errorf("behind %v: %v; with all ticks one by one %v", list, look(one), look(other))
		}
	}
}
