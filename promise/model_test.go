package promise_test

import (
	"fmt"
	"math"
	"slices"
	"testing"

	"ensemble/api"
	"ensemble/promise"
)

const (
	every = uint64(math.MaxUint64)
	last  = 1 << 30
	never = last + 1
	most  = 1 << 40
)

// plenty is more than any want needs.
var plenty = api.Units{Gpus: most, Cpus: most}

// free is what is free at a spot.
func free(node, domain int, m uint64, cpus int) api.Free {
	return api.Free{Spot: api.Spot{Node: node, Domain: domain}, Mask: m, Cpus: cpus}
}

// at is a slot.
func at(node, domain int, m uint64, cpus int) api.Slot {
	return api.Slot{Spot: api.Spot{Node: node, Domain: domain}, Mask: m, Cpus: cpus}
}

// till is a hold of queue 0; its other fields, which play no part, are filled.
func till(until int, slots ...api.Slot) api.Hold { return of(0, until, slots...) }

func of(queue, until int, slots ...api.Slot) api.Hold {
	return api.Hold{Id: 7, Queue: queue, Until: until, Running: until%2 == 0, Slots: slots}
}

// want is so many members of so much each, for queue 0.
func want(members, gpus, cpus int) api.Want {
	return api.Want{Members: members, Shape: api.Shape{Gpus: gpus, Cpus: cpus, Min: 1, Max: 16}}
}

// ask is what Earliest is handed.
type ask struct {
	now  int
	view []api.Free
	left api.Units
	ends []api.Hold
	w    api.Want
}

// String is short, where there are many holds.
func (a ask) String() string {
	return fmt.Sprint(a.now, a.view[:min(8, len(a.view))], a.left, len(a.ends), a.ends[:min(8, len(a.ends))], a.w)
}

func (a ask) earliest() (int, api.Errno) {
	return promise.Earliest(a.now, a.view, a.left, a.ends, a.w)
}

// clone has nothing in common with a, but spare room of its own.
func (a ask) clone() ask {
	a.view = append(slices.Grow([]api.Free(nil), len(a.view)+2), a.view...)
	ends := slices.Grow([]api.Hold(nil), len(a.ends)+2)
	for _, h := range a.ends {
		h.Slots = append(slices.Grow([]api.Slot(nil), len(h.Slots)+2), h.Slots...)
		ends = append(ends, h)
	}
	a.ends = ends
	return a
}

func sameHold(a, b api.Hold) bool {
	return a.Id == b.Id && a.Queue == b.Queue && a.Until == b.Until && a.Running == b.Running && slices.Equal(a.Slots, b.Slots)
}

func (a ask) same(b ask) bool {
	return a.now == b.now && a.left == b.left && a.w == b.w && slices.Equal(a.view, b.view) && slices.EqualFunc(a.ends, b.ends, sameHold)
}

// comes holds Earliest's answer to be this tick.
func comes(t *testing.T, a ask, tick int) {
	t.Helper()
	if n, e := a.earliest(); n != tick || e != api.OK {
		t.Errorf("Earliest(%v) = %d, %d, want %d", a, n, e, tick)
	}
}

// refused holds Earliest's answer to be this error alone.
func refused(t *testing.T, a ask, want api.Errno) {
	t.Helper()
	if n, e := a.earliest(); n != 0 || e != want {
		t.Errorf("Earliest(%v) = %d, %d, want 0, %d", a, n, e, want)
	}
}

// plainRoom cuts members out of each spot one by one, till none fits, or there are 16.
func plainRoom(view []api.Free, s api.Shape) int {
	room := 0
	for _, f := range view {
		gpus := 0
		for u := range 64 {
			gpus += int(f.Mask >> u & 1)
		}
		cpus := f.Cpus
		for n := 0; n < 16 && gpus >= s.Gpus && cpus >= s.Cpus; n++ {
			gpus -= s.Gpus
			cpus -= s.Cpus
			room++
		}
	}
	return room
}

// plainFits counts what members need one by one.
func plainFits(view []api.Free, left api.Units, w api.Want) bool {
	for range w.Members {
		left.Gpus -= w.Shape.Gpus
		left.Cpus -= w.Shape.Cpus
	}
	return left.Gpus >= 0 && left.Cpus >= 0 && plainRoom(view, w.Shape) >= w.Members
}

// plainMore puts a hold's slots to a view, unit by unit.
func plainMore(view []api.Free, slots []api.Slot) ([]api.Free, api.Errno) {
	after := append([]api.Free{}, view...)
	for _, s := range slots {
		if s.Cpus < 0 {
			return nil, api.ErrRange
		}
		k := slices.IndexFunc(after, func(f api.Free) bool { return f.Spot == s.Spot })
		if k < 0 {
			return nil, api.ErrNone
		}
		for u := range 64 {
			if s.Mask>>u&1 == 0 {
				continue
			}
			if after[k].Mask>>u&1 == 1 {
				return nil, api.ErrTwice
			}
			after[k].Mask += 1 << u
		}
		if uint64(after[k].Cpus)+uint64(s.Cpus) > 1<<20 {
			return nil, api.ErrOver
		}
		after[k].Cpus += s.Cpus
	}
	return after, api.OK
}

// fitsAt goes through the holds as they came for those that have ended by the tick.
func (a ask) fitsAt(tick int) bool {
	view, left := a.view, a.left
	for _, h := range a.ends {
		if h.Until > tick {
			continue
		}
		view, _ = plainMore(view, h.Slots)
		for _, s := range h.Slots {
			if h.Queue != a.w.Queue {
				continue
			}
			left.Cpus += s.Cpus
			for u := range 64 {
				left.Gpus += int(s.Mask >> u & 1)
			}
		}
	}
	return plainFits(view, left, a.w)
}

// plain asks tick by tick up to one behind which no hold but those at the last ticks ends, and these one by one.
func (a ask) plain(upTo int) int {
	for tick := a.now; tick <= min(upTo, last); tick++ {
		if a.fitsAt(tick) {
			return tick
		}
	}
	for tick := max(a.now, last-3); tick <= last; tick++ {
		if a.fitsAt(tick) {
			return tick
		}
	}
	return never
}

// draws are numbers that look as if drawn, and are the same in each run.
type draws uint64

func (d *draws) below(n int) int {
	x := uint64(*d)
	x ^= x << 13
	x ^= x >> 7
	x ^= x << 17
	*d = draws(x)
	return int(x >> 1 % uint64(n))
}

// until is a drawn end: mostly of the first 24 ticks, at times below 0, at the last ticks, and behind Never.
func (d *draws) until() int {
	switch d.below(12) {
	case 0:
		return last - 2 + d.below(5)
	case 1:
		return []int{math.MinInt, -1 << 32, -1, never, never + 7, 1 << 32, math.MaxInt}[d.below(7)]
	}
	return d.below(24)
}

// ask is drawn: a cluster of a few spots, the units of each are free, held, or neither.
func (d *draws) ask() ask {
	a := ask{now: d.below(24)}
	a.w = want(1+d.below(7), d.below(3), d.below(4))
	a.w.Queue = d.below(3)
	if a.w.Shape.Gpus+a.w.Shape.Cpus == 0 {
		a.w.Shape.Cpus = 1
	}
	a.left = api.Units{Gpus: d.below(14) - 3, Cpus: d.below(16) - 3}
	if d.below(2) == 0 {
		a.left = plenty
	}
	for range d.below(8) {
		a.ends = append(a.ends, of(d.below(3), d.until()))
	}
	for k := range d.below(5) {
		f := free(4-k, k*2%3, 0, d.below(4))
		for u := range 5 {
			if d.below(4) == 0 {
				f.Mask |= 1 << (u * 3)
			}
		}
		a.view = append(a.view, f)
		d.hold(a.ends, f)
	}
	return a
}

// hold gives each of a spot's Gpus that isn't free to a hold, at times with Cpus.
func (d *draws) hold(ends []api.Hold, f api.Free) {
	for u := range 5 {
		m := uint64(1) << (u * 3)
		if len(ends) == 0 || f.Mask&m != 0 || d.below(5) == 0 {
			continue
		}
		h := &ends[d.below(len(ends))]
		h.Slots = append(h.Slots, api.Slot{Spot: f.Spot, Mask: m, Cpus: d.below(3)})
	}
}
