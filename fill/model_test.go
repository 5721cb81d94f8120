package fill_test

import (
	"fmt"
	"math"
	"slices"
	"testing"

	"ensemble/api"
	"ensemble/fill"
)

const (
	every = uint64(math.MaxUint64)
	last  = 1 << 30
	never = last + 1
	most  = 1 << 40
)

// plenty is more than any head and any hold need.
var plenty = api.Units{Gpus: most, Cpus: most}

// free is what is free at a spot.
func free(node, domain int, m uint64, cpus int) api.Free {
	return api.Free{Spot: api.Spot{Node: node, Domain: domain}, Mask: m, Cpus: cpus}
}

// at is a slot.
func at(node, domain int, m uint64, cpus int) api.Slot {
	return api.Slot{Spot: api.Spot{Node: node, Domain: domain}, Mask: m, Cpus: cpus}
}

// till is a hold of queue 0; its other fields, which play no part, are filled.
func till(until int, slots ...api.Slot) api.Hold { return of(0, until, slots...) }

func of(queue, until int, slots ...api.Slot) api.Hold {
	return api.Hold{Id: 7, Queue: queue, Until: until, Running: until%2 == 0, Slots: slots}
}

// want is so many members of so much each, for queue 0.
func want(members, gpus, cpus int) api.Want {
	return api.Want{Members: members, Shape: api.Shape{Gpus: gpus, Cpus: cpus, Min: 1, Max: 16}}
}

// ask is what After is handed.
type ask struct {
	now  int
	view []api.Free
	left api.Units
	ends []api.Hold
	w    api.Want
	h    api.Hold
}

// String is short, where there are many holds.
func (a ask) String() string {
	return fmt.Sprint(a.now, a.view[:min(8, len(a.view))], a.left, len(a.ends), a.ends[:min(8, len(a.ends))], a.w, a.h)
}

func (a ask) after() (int, api.Errno) {
	return fill.After(a.now, a.view, a.left, a.ends, a.w, a.h)
}

func (a ask) safe(promised int) (bool, api.Errno) {
	return fill.Safe(a.now, a.view, a.left, a.ends, a.w, promised, a.h)
}

func cloneHold(h api.Hold) api.Hold {
	h.Slots = append(slices.Grow([]api.Slot(nil), len(h.Slots)+2), h.Slots...)
	return h
}

// clone has nothing in common with a, but spare room of its own.
func (a ask) clone() ask {
	a.view = append(slices.Grow([]api.Free(nil), len(a.view)+2), a.view...)
	ends := slices.Grow([]api.Hold(nil), len(a.ends)+2)
	for _, h := range a.ends {
		ends = append(ends, cloneHold(h))
	}
	a.ends = ends
	a.h = cloneHold(a.h)
	return a
}

func sameHold(a, b api.Hold) bool {
	return a.Id == b.Id && a.Queue == b.Queue && a.Until == b.Until && a.Running == b.Running && slices.Equal(a.Slots, b.Slots)
}

func (a ask) same(b ask) bool {
	return a.now == b.now && a.left == b.left && a.w == b.w && slices.Equal(a.view, b.view) && slices.EqualFunc(a.ends, b.ends, sameHold) && sameHold(a.h, b.h)
}

// promises are those around the ticks, and far away.
func promises(ticks ...int) []int {
	l := []int{math.MinInt, -1 << 32, -1, 0, 1, last, never, never + 1, 1 << 32, math.MaxInt}
	for _, tick := range ticks {
		l = append(l, tick-1, tick, tick+1)
	}
	return l
}

// comes holds After's answer to be this tick, and Safe's to be just what that says of promises around it.
func comes(t *testing.T, a ask, tick int) {
	t.Helper()
	if n, e := a.after(); n != tick || e != api.OK {
		t.Errorf("After(%v) = %d, %d, want %d", a, n, e, tick)
	}
	for _, promised := range promises(a.now, tick, a.h.Until) {
		want := tick <= promised || tick <= a.now
		if is, e := a.safe(promised); is != want || e != api.OK {
			t.Errorf("Safe(%v), promised %d = %v, %d, want %v", a, promised, is, e, want)
		}
	}
}

// refused holds both answers to be this error alone, whatever is promised.
func refused(t *testing.T, a ask, want api.Errno) {
	t.Helper()
	if n, e := a.after(); n != 0 || e != want {
		t.Errorf("After(%v) = %d, %d, want 0, %d", a, n, e, want)
	}
	for _, promised := range promises(a.now) {
		if is, e := a.safe(promised); is || e != want {
			t.Errorf("Safe(%v), promised %d = %v, %d, want false, %d", a, promised, is, e, want)
		}
	}
}

// plainRoom cuts members out of each spot one by one, till none fits, or there are 16.
func plainRoom(view []api.Free, s api.Shape) int {
	room := 0
	for _, f := range view {
		gpus := 0
		for u := range 64 {
			gpus += int(f.Mask >> u & 1)
		}
		cpus := f.Cpus
		for n := 0; n < 16 && gpus >= s.Gpus && cpus >= s.Cpus; n++ {
			gpus -= s.Gpus
			cpus -= s.Cpus
			room++
		}
	}
	return room
}

// plainFits counts what members need one by one.
func plainFits(view []api.Free, left api.Units, w api.Want) bool {
	for range w.Members {
		left.Gpus -= w.Shape.Gpus
		left.Cpus -= w.Shape.Cpus
	}
	return left.Gpus >= 0 && left.Cpus >= 0 && plainRoom(view, w.Shape) >= w.Members
}

// plainTurn takes slots off a view, or puts them to it, unit by unit.
func plainTurn(view []api.Free, slots []api.Slot, off bool) ([]api.Free, api.Errno) {
	after := append([]api.Free{}, view...)
	for _, s := range slots {
		if s.Cpus < 0 {
			return nil, api.ErrRange
		}
		k := slices.IndexFunc(after, func(f api.Free) bool { return f.Spot == s.Spot })
		if k < 0 {
			return nil, api.ErrNone
		}
		for u := range 64 {
			if s.Mask>>u&1 == 0 {
				continue
			}
			if is := after[k].Mask>>u&1 == 1; is != off {
				return nil, map[bool]api.Errno{true: api.ErrBusy, false: api.ErrTwice}[off]
			}
			after[k].Mask ^= 1 << u
		}
		if off && after[k].Cpus < s.Cpus {
			return nil, api.ErrBusy
		}
		if !off && uint64(after[k].Cpus)+uint64(s.Cpus) > 1<<20 {
			return nil, api.ErrOver
		}
		after[k].Cpus += map[bool]int{true: -s.Cpus, false: s.Cpus}[off]
	}
	return after, api.OK
}

// plainLeft is the units left with those of a hold so many times, if it is of the head's queue.
func plainLeft(left api.Units, h api.Hold, queue, times int) api.Units {
	for _, s := range h.Slots {
		if h.Queue != queue {
			continue
		}
		left.Cpus += times * s.Cpus
		for u := range 64 {
			left.Gpus += times * int(s.Mask>>u&1)
		}
	}
	return left
}

// fitsAt goes through the holds as they came for those that have ended by the tick; the one that is asked for is taken only if it hasn't.
func (a ask) fitsAt(tick int) bool {
	view, left := a.view, a.left
	if a.h.Until > tick {
		view, _ = plainTurn(view, a.h.Slots, true)
		left = plainLeft(left, a.h, a.w.Queue, -1)
	}
	for _, h := range a.ends {
		if h.Until > tick {
			continue
		}
		view, _ = plainTurn(view, h.Slots, false)
		left = plainLeft(left, h, a.w.Queue, 1)
	}
	return plainFits(view, left, a.w)
}

// plain asks tick by tick up to one behind which no hold but those at the last ticks ends, and these one by one.
func (a ask) plain(upTo int) int {
	for tick := a.now; tick <= min(upTo, last); tick++ {
		if a.fitsAt(tick) {
			return tick
		}
	}
	for tick := max(a.now, last-3); tick <= last; tick++ {
		if a.fitsAt(tick) {
			return tick
		}
	}
	return never
}

// plainError is what is wrong first: with the hold's slots, then with now and the want, then with all holds' slots, the hold's own behind the others'.
func (a ask) plainError() api.Errno {
	view, e := plainTurn(a.view, a.h.Slots, true)
	if e != api.OK {
		return e
	}
	s := a.w.Shape
	if a.now < 0 || a.now > last || a.w.Members < 1 || a.w.Members > 16 || s.Gpus < 0 || s.Gpus > 16 || s.Cpus < 0 || s.Cpus > 1024 || s.Gpus+s.Cpus == 0 || s.Min < 1 || s.Max < s.Min || s.Max > 16 {
		return api.ErrRange
	}
	var slots []api.Slot
	for _, h := range a.ends {
		slots = append(slots, h.Slots...)
	}
	_, e = plainTurn(view, append(slots, a.h.Slots...), false)
	return e
}

// draws are numbers that look as if drawn, and are the same in each run.
type draws uint64

func (d *draws) below(n int) int {
	x := uint64(*d)
	x ^= x << 13
	x ^= x >> 7
	x ^= x << 17
	*d = draws(x)
	return int(x >> 1 % uint64(n))
}

// until is a drawn end: mostly of the first 24 ticks, at times below 0, at the last ticks, and behind Never.
func (d *draws) until() int {
	switch d.below(12) {
	case 0:
		return last - 2 + d.below(5)
	case 1:
		return []int{math.MinInt, -1 << 32, -1, never, never + 7, 1 << 32, math.MaxInt}[d.below(7)]
	}
	return d.below(24)
}

// ask is drawn: a cluster of a few spots, the units of each are free, held, or neither; some of the free ones are the hold's.
func (d *draws) ask() ask {
	a := ask{now: d.below(24), h: of(d.below(2), d.until())}
	a.w = want(1+d.below(6), d.below(3), d.below(4))
	if a.w.Shape.Gpus+a.w.Shape.Cpus == 0 {
		a.w.Shape.Cpus = 1
	}
	a.left = api.Units{Gpus: d.below(18) - 2, Cpus: d.below(20) - 2}
	if d.below(2) == 0 {
		a.left = plenty
	}
	for range d.below(7) {
		a.ends = append(a.ends, of(d.below(3), d.until()))
	}
	for k := range d.below(5) {
		f := free(4-k, k*2%3, 0, d.below(6))
		for u := range 5 {
			if d.below(3) > 0 {
				f.Mask |= 1 << (u * 3)
			}
		}
		a.view = append(a.view, f)
		d.held(a.ends, f)
		d.take(&a.h, f)
	}
	return a
}

// held gives each of a spot's Gpus that isn't free to a hold, at times with Cpus.
func (d *draws) held(ends []api.Hold, f api.Free) {
	for u := range 5 {
		m := uint64(1) << (u * 3)
		if len(ends) == 0 || f.Mask&m != 0 || d.below(5) == 0 {
			continue
		}
		h := &ends[d.below(len(ends))]
		h.Slots = append(h.Slots, api.Slot{Spot: f.Spot, Mask: m, Cpus: d.below(3)})
	}
}

// take gives some of a spot's free units to the hold, in up to two slots.
func (d *draws) take(h *api.Hold, f api.Free) {
	for range d.below(3) {
		s := api.Slot{Spot: f.Spot, Cpus: d.below(f.Cpus + 1)}
		for u := range 5 {
			if m := uint64(1) << (u * 3); f.Mask&m != 0 && d.below(3) == 0 {
				s.Mask |= m
			}
		}
		f.Mask &^= s.Mask
		f.Cpus -= s.Cpus
		h.Slots = append(h.Slots, s)
	}
}
