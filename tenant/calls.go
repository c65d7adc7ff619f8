package tenant

import (
	"nightjar/alarm"
	"nightjar/api"
	"nightjar/caps"
	"nightjar/num"
	"nightjar/queue"
)

// What Used may be asked for. The bounds of the first three are in the book, by these numbers.
const (
	usedHandles = iota
	usedTimers
	usedDevs
	usedNotes
	usedQueue
)

// ofTenant answers calls that need no thing of a kind.
func (t *Tenant) ofTenant(c api.Call, now uint64) (uint64, api.Errno) {
	switch c.Op {
	case api.Open:
		return t.open(c.A)
	case api.Timer:
		return t.timer()
	case api.Dup:
		return t.dup(c.A, c.B)
	case api.Drop:
		return t.drop(c.A)
	case api.Used:
		return t.used(c.A)
	default: // api.Now
		return now, api.OK
	}
}

// ofTimer answers calls on a timer.
func (t *Tenant) ofTimer(c api.Call, timer int, now uint64) (uint64, api.Errno) {
	switch c.Op {
	case api.Arm:
		return t.arm(c, timer, now)
	case api.Stop:
		return one(t.stop(timer)), api.OK
	default: // api.When
		return t.when(timer)
	}
}

// ofDev answers calls on a device.
func (t *Tenant) ofDev(c api.Call, dev int) (uint64, api.Errno) {
	switch c.Op {
	case api.Watch:
		return t.watch(c, dev)
	case api.Unwatch:
		return one(t.devs.Unwatch(dev)), api.OK
	case api.Cond:
		look, _ := t.devs.Look(dev)
		return uint64(look.Ready), api.OK
	default: // api.Ack
		return t.ack(dev, c.B)
	}
}

// open opens a device.
func (t *Tenant) open(number uint64) (uint64, api.Errno) {
	// No tenant has a device MaxDevs, so greater numbers, which an int might not hold, are none either.
	dev := int(min(number, api.MaxDevs))
	look, ok := t.devs.Look(dev)
	switch {
	case !ok:
		return 0, api.ErrArg
	case look.Open:
		return 0, api.ErrBusy
	case !t.handleLeft():
		return 0, api.ErrQuota
	}
	t.devs.Open(dev)
	t.bounds.Take(usedDevs, 1)
	return t.mint(caps.Cap{Kind: caps.Dev, Index: dev, Rights: api.MayAll})
}

// timer makes a timer.
func (t *Tenant) timer() (uint64, api.Errno) {
	if !t.handleLeft() || !t.bounds.Take(usedTimers, 1) {
		return 0, api.ErrQuota
	}
	// Within the bound there is a place.
	timer, _ := t.timers.Make()
	return t.mint(caps.Cap{Kind: caps.Timer, Index: timer, Rights: api.MayAll})
}

// dup makes another handle for a thing, with no more rights.
func (t *Tenant) dup(handle, rights uint64) (uint64, api.Errno) {
	is, err := t.handles.Look(handle)
	switch {
	case err != api.OK:
		return 0, err
	case is.Rights&api.MayDup == 0:
		return 0, api.ErrRights
	case rights > api.MayAll:
		return 0, api.ErrArg
	case int(rights)&^is.Rights != 0:
		return 0, api.ErrRights
	case !t.handleLeft():
		return 0, api.ErrQuota
	}
	is.Rights = int(rights)
	return t.mint(is)
}

// handleLeft tells whether there may be another handle: places that are used up give none, though none of these is out.
func (t *Tenant) handleLeft() bool { return t.bounds.Left(usedHandles) > t.handles.Dead() }

// mint makes a handle, of which it is known that it is left.
func (t *Tenant) mint(c caps.Cap) (uint64, api.Errno) {
	t.bounds.Take(usedHandles, 1)
	return t.handles.Mint(c)
}

// drop revokes a handle, and ends what was done by it: how many are left for its thing.
func (t *Tenant) drop(handle uint64) (uint64, api.Errno) {
	is, err := t.handles.Look(handle)
	if err != api.OK {
		return 0, err
	}
	t.handles.Revoke(handle)
	t.bounds.Give(usedHandles, 1)
	t.forget(is, handle)
	left := t.handles.Of(is.Kind, is.Index)
	if left == 0 {
		t.letGo(is)
	}
	return uint64(left), api.OK
}

// forget ends what a thing has by a handle, so that nothing is ever told by one that isn't out.
func (t *Tenant) forget(is caps.Cap, handle uint64) {
	if is.Kind == caps.Timer {
		if row, _ := t.timers.Look(is.Index); row.State != alarm.Idle && row.Handle == handle {
			t.stop(is.Index)
		}
		return
	}
	if look, _ := t.devs.Look(is.Index); look.Want != 0 && look.Handle == handle {
		t.devs.Unwatch(is.Index)
	}
}

// letGo lets a thing go for which there is no handle.
func (t *Tenant) letGo(is caps.Cap) {
	if is.Kind == caps.Timer {
		t.timers.Free(is.Index)
		t.bounds.Give(usedTimers, 1)
		return
	}
	t.devs.Close(is.Index)
	t.bounds.Give(usedDevs, 1)
}

// arm sets a timer, whatever it was.
func (t *Tenant) arm(c api.Call, timer int, now uint64) (uint64, api.Errno) {
	at, ok := num.Add(now, c.B)
	if !ok {
		return 0, api.ErrRange
	}
	was := t.stop(timer)
	t.timers.Arm(timer, c.A, at, c.C)
	return one(was), api.OK
}

// stop lets a timer be idle, and tell nothing; false: it was idle.
func (t *Tenant) stop(timer int) bool {
	t.ready.Drop(queue.Thing{Kind: queue.Timer, Index: timer})
	return t.timers.Stop(timer)
}

// when is for which time a timer is set, or was, if that is over.
func (t *Tenant) when(timer int) (uint64, api.Errno) {
	row, _ := t.timers.Look(timer)
	if row.State == alarm.Idle {
		return 0, api.ErrOff
	}
	return row.At, api.OK
}

// watch watches a device, whoever watched it.
func (t *Tenant) watch(c api.Call, dev int) (uint64, api.Errno) {
	if c.B < 1 || c.B > api.Any || c.C > api.Once {
		return 0, api.ErrArg
	}
	t.devs.Watch(dev, c.A, int(c.B), int(c.C))
	return 0, api.OK
}

// ack lets something of a device be ready no more: what of it was.
func (t *Tenant) ack(dev int, mask uint64) (uint64, api.Errno) {
	if mask > api.Any {
		return 0, api.ErrArg
	}
	return uint64(t.devs.Ack(dev, int(mask))), api.OK
}

// used is how much of something there is.
func (t *Tenant) used(what uint64) (uint64, api.Errno) {
	switch what {
	case usedHandles, usedTimers, usedDevs:
		return uint64(t.bounds.Used(int(what))), api.OK
	case usedNotes:
		return uint64(len(t.devs.Notes())), api.OK
	case usedQueue:
		return uint64(t.ready.Len()), api.OK
	}
	return 0, api.ErrArg
}

// one is how many things were done: one, or none.
func one(done bool) uint64 {
	if done {
		return 1
	}
	return 0
}
